/-
Contracts of package label's small functions: isLabelByte, isPlain, isNotBasic, isUpper, and of slices.ContainsFunc with the last two.
Contracts of slices.IndexFunc and slices.ContainsFunc with package label's two tests.
What is said of the text of a list of code points; no function.
Contracts of package label's pointsOf and textOf.
Contracts of the small functions of package punycode: isPoint, digitByte, digitOf, adapted.
-/
import Derived.Test.YtekaljeicfjkjaaGreatDoorJ30
import Derived.Test.YtekaljeicfjkjaaGreatDoorJ13
import Derived.Test.YtekaljeicfjkjaaGreatDoorJ09
import Derived.BigQuiet
import Derived.Deep.QuietTactic
import Derived.Test.YtekaljeicfjkjaaGreatDoorJ02
import Derived.Test.YtekaljeicfjkjaaGreatDoorJ07
import Derived.Deep.LoopGhost
import Derived.Test.YtekaljeicfjkjaaGreatDoorJ27
namespace Go.Proofs.YtekaljeicfjkjaaGreatDoor
section
open Go.RowKit
set_option maxHeartbeats 16000000
def okI (y : Int) : Bool := (decide (97 <= y) && decide (y <= 122)) || (decide (48 <= y) && decide (y <= 57)) || y == 45 || y == 95
theorem zte (n : Nat) : okI (n : Int) = okN n := by
 have e : okI (n : Int) = true ↔ okN n = true := by
  rw [zsn]
  unfold okI
  simp only [Bool.or_eq_true, Bool.and_eq_true, decide_eq_true_eq, beq_iff_eq]
  omega
 cases h : okN n with
 | true => exact e.2 h
 | false =>
   cases h2 : okI (n : Int) with
   | true => rw [e.1 h2] at h; cases h
   | false => rfl
theorem ztf (b : Int) (w : World) : Calls Tryz.prog 212 #[.int .u8 b] w fun e w' => e = .returned (.bool (okI b)) /\ w = w' := by
 go_enter Tryz.func212, Tryz.ntmps212
 go_wp2
 all_goals
  go_ret
  exact ⟨zbx (by first | (simp [okI, *]; done) | (exfalso; simp_all; done) | (simp [okI, *]; omega) | (rw [Bool.eq_iff_iff]; simp [okI, *]; done) | (rw [Bool.eq_iff_iff]; simp [okI, *]; omega)), rfl⟩
theorem ztg (c : UInt8) (w : World) : Calls Tryz.prog 212 #[.int .u8 (c.toNat : Int)] w fun e w' => e = .returned (.bool (okN c.toNat)) /\ w = w' := by
 rw [<- zte]
 exact ztf _ w
def zth (l : List UInt8) : Bool := zr6 l && l.all (fun b => okN b.toNat)
theorem zti (l : List UInt8) : zr7 l = (zth l && (decide (l.take 4 ≠ xnL) || zr5 (l.drop 4))) := rfl
theorem ztj {s : ByteArray} (h : s.size = 0) : zth (ls s) = false := by
 have : ls s = [] := List.eq_nil_of_length_eq_zero (by rw [zb4]; exact h)
 rw [this]
 rfl
theorem ztk {s : ByteArray} (h : 63 < s.size) : zth (ls s) = false := by
 unfold zth zr6
 rw [zb4, jF (p := s.size <= 63) (by omega)]
 simp
theorem ztl {s : ByteArray} {y0 y1 : Nat} (h : 0 < s.size) (h0 : y0 = (s[0]'h).toNat) (h1 : y1 = (s[s.size - 1]'(by omega)).toNat) :
 ((y0 = 45 \/ y1 = 45) -> zth (ls s) = false) /\ ((y0 ≠ 45 /\ y1 ≠ 45 /\ s.size <= 63) -> zth (ls s) = okK (ls s) s.size) := by
 have g0 : (ls s).head? = some (s[0]'h) := by rw [List.head?_eq_getElem?, zb7 s 0 h]
 have g1 : (ls s).getLast? = some (s[s.size - 1]'(by omega)) := by rw [List.getLast?_eq_getElem?, zb4, zb7 s _ (by omega)]
 have hne : ls s ≠ [] := by
  intro e
  have := zb4 s
  rw [e] at this
  simp at this
  omega
 have e : zr6 (ls s) = (decide (s.size <= 63) && decide (y0 ≠ 45) && decide (y1 ≠ 45)) := by
  unfold zr6
  rw [g0, g1, zb4, jT hne, Bool.true_and]
  congr 1
  ·congr 1
   rw [decide_eq_decide]
   rw [h0, ne_eq, ne_eq, Option.some.injEq, zsl]
  ·rw [decide_eq_decide]
   rw [h1, ne_eq, ne_eq, Option.some.injEq, zsl]
 refine ⟨?_, ?_⟩
 ·intro hh
  unfold zth
  rw [e]
  rcases hh with hh | hh
  ·simp [hh]
  ·simp [hh]
 ·rintro ⟨a, b, c⟩
  unfold zth okK
  rw [e, jT a, jT b, jT c, zcb]
  simp
theorem ztm {l : List UInt8} (n k : Nat) (h : k < l.length) (hn : k < n) (hb : okN (l[k]).toNat = false) : okK l n = false := by
 unfold okK
 rw [List.all_eq_false]
 refine ⟨l[k], ?_, by rw [hb]; simp⟩
 rw [List.mem_take_iff_getElem]
 exact ⟨k, by omega, rfl⟩
set_option maxRecDepth 20000 in
theorem ztn (s : ByteArray) (w : World) :
 Calls Tryz.prog 194 #[.string s] w fun e w' => e = .returned (.bool (zth (ls s))) /\ w = w' := by
 by_cases h0 : s.size = 0
 ·have hlab := jL (ztj h0)
  have he : s.toList.isEmpty = true := by rw [zb3]; exact List.isEmpty_iff.2 (List.eq_nil_of_length_eq_zero (by rw [zb4]; exact h0))
  go_enter Tryz.func194, Tryz.ntmps194
  go_wp2
  go_ret
  exact ⟨zbx hlab.out.symm, rfl⟩
 ·have he : s.toList.isEmpty = false := by rw [zb3]; exact zsh h0
  by_cases h1 : 63 < s.size
  ·have hlab := jL (ztk h1)
   have hd : decide ((63 : Int) < (s.size : Int)) = true := jT (by omega)
   go_enter Tryz.func194, Tryz.ntmps194
   go_wp2
   go_ret
   exact ⟨zbx hlab.out.symm, rfl⟩
  ·have hd : decide ((63 : Int) < (s.size : Int)) = false := jF (by omega)
   have hz0 : (0 : Int) < (s.size : Int) := by omega
   have hf0 : 0 < s.size := by omega
   obtain ⟨y0, hy0⟩ : ∃ y0 : Nat, y0 = (s[0]'hf0).toNat := ⟨_, rfl⟩
   obtain ⟨y1, hy1⟩ : ∃ y1 : Nat, y1 = (s[s.size - 1]'(by omega)).toNat := ⟨_, rfl⟩
   have hends := jL (ztl hf0 hy0 hy1)
   have hsub : (s.size : Int) - 1 = ((s.size - 1 : Nat) : Int) := by omega
   by_cases h2 : y0 = 45
   ·have hlab := jL (hends.out.1 (.inl h2))
    have e0 : (((s[0]'hf0).toNat : Int) == 45) = true := by rw [<- hy0, h2]; rfl
    clear hy0 hy1
    go_enter Tryz.func194, Tryz.ntmps194
    go_wp2
    go_ret
    exact ⟨zbx hlab.out.symm, rfl⟩
   ·have e0 : (((s[0]'hf0).toNat : Int) == 45) = false := by rw [<- hy0]; simp; omega
    by_cases h3 : y1 = 45
    ·have hlab := jL (hends.out.1 (.inr h3))
     have e1 : (((s[s.size - 1]'(by omega)).toNat : Int) == 45) = true := by rw [<- hy1, h3]; rfl
     clear hy0 hy1
     go_enter Tryz.func194, Tryz.ntmps194
     go_wp2
     go_ret
     exact ⟨zbx hlab.out.symm, rfl⟩
    ·have hlab := jL (hends.out.2 ⟨h2, h3, by omega⟩)
     have e1 : (((s[s.size - 1]'(by omega)).toNat : Int) == 45) = false := by rw [<- hy1]; simp; omega
     clear hy0 hy1 hends
     rw [hlab.out]
     have HS : Hid (s.size <= 63) := by show _ <= _; omega
     obtain ⟨R, hR⟩ : ∃ R, R = okK (ls s) s.size := ⟨_, rfl⟩
     have HR := jL hR
     rw [<- hR]
     clear hR hlab
     go_enter Tryz.func194, Tryz.ntmps194
     go_wp2
     clear e0 e1 h2 h3 hsub he
     go_loop [26] (fun i => ∃ k : Nat, k <= s.size /\ i = .int .i64 k /\ Hid (okK (ls s) k = true)) (fun i => s.size - (intOf i).toNat)
     case atStart => exact ⟨0, Nat.zero_le _, rfl, rfl⟩
     case round =>
      obtain ⟨k, hk, rfl, HK⟩ := hrel
      have hs63 : s.size <= 63 := HS.out
      by_cases hlt : k < s.size
      ·have hkl : k < (ls s).length := by rw [zb4]; exact hlt
       have HG := jL (zsp (ls s) k hkl)
       have HB : Hid (okN (ls s)[k].toNat = false -> R = false) := fun hb => by rw [HR.out]; exact ztm s.size k hkl hlt hb
       rw [zb8 s k hlt hkl] at HG HB
       have hkd : decide ((k : Int) < (s.size : Int)) = true := jT (by omega)
       have cB := ztg s[k]
       cases hq : okN s[k].toNat with
       | true =>
         have HK2 : Hid (okK (ls s) (k + 1) = true) := by show _ = _; rw [HG.out, HK.out, hq]; rfl
         rw [hq] at cB
         clear hq
         go_wp2_with (go_at_call 212; refine (cB _).mono ?_; rintro e w' ⟨rfl, rfl⟩)
         go_round
         case rel => exact ⟨k + 1, by omega, by go_num, HK2⟩
         case measure => simp [intOf]; omega
       | false =>
         have HE := jL (HB.out hq)
         rw [hq] at cB
         clear hq
         go_wp2_with (go_at_call 212; refine (cB _).mono ?_; rintro e w' ⟨rfl, rfl⟩)
         go_ret
         exact ⟨zbx HE.out.symm, rfl⟩
      ·obtain rfl : k = s.size := by omega
       have hkd : decide ((s.size : Int) < (s.size : Int)) = false := by simp
       have HR2 : Hid (R = true) := by show _ = _; rw [HR.out, HK.out]
       go_wp2
       go_ret
       exact ⟨zbx HR2.out.symm, rfl⟩
theorem zto (x : Nat) (w : World) : Calls Tryz.prog 215 #[.int .i64 (x : Int)] w fun e w' => e = .returned (.bool (decide (128 <= x))) /\ w = w' := by
 have e : decide ((128 : Int) <= (x : Int)) = decide (128 <= x) := by rw [decide_eq_decide]; omega
 go_enter Tryz.func215, Tryz.ntmps215
 go_wp2
 go_ret
 exact ⟨zbx (by first | exact e | simp), rfl⟩
theorem ztp (x : Nat) (w : World) : Calls Tryz.prog 216 #[.int .i64 (x : Int)] w fun e w' => e = .returned (.bool (zr4 x)) /\ w = w' := by
 rcases ztc x with ⟨n1, n2⟩ | ⟨n1, n2, n3⟩ | ⟨n1, n2, n3⟩ | ⟨n1, n3⟩
 ·have t : decide ((65 : Int) <= (x : Int)) = false := jF (by omega)
  have tN : decide (65 <= x) = false := jF (by omega)
  rw [n2]
  clear n1 n2
  go_enter Tryz.func216, Tryz.ntmps216
  go_wp2
  go_ret
  exact ⟨rfl, rfl⟩
 all_goals
  have t : decide ((65 : Int) <= (x : Int)) = true := jT (by omega)
  have tN : decide (65 <= x) = true := jT (by omega)
  rw [n3]
 ·have t2 : decide ((x : Int) <= 90) = true := jT (by omega)
  have t2N : decide (x <= 90) = true := jT (by omega)
  clear n1 n2 n3
  go_enter Tryz.func216, Tryz.ntmps216
  go_wp2
  go_ret
  exact ⟨rfl, rfl⟩
 ·have t2 : decide ((x : Int) <= 90) = false := jF (by omega)
  have t2N : decide (x <= 90) = false := jF (by omega)
  clear n1 n2 n3
  go_enter Tryz.func216, Tryz.ntmps216
  go_wp2
  go_ret
  exact ⟨rfl, rfl⟩
 ·have t2 : decide ((x : Int) <= 90) = false := jF (by omega)
  have t2N : decide (x <= 90) = false := jF (by omega)
  clear n1 n3
  go_enter Tryz.func216, Tryz.ntmps216
  go_wp2
  go_ret
  exact ⟨rfl, rfl⟩
end

section
open Go.RowKit
set_option maxHeartbeats 16000000
theorem zst (P : List Nat) (q : Nat -> Bool) (k : Nat) (h : k < P.length) : (P.drop k).any q = (q P[k] || (P.drop (k + 1)).any q) := by
 rw [List.drop_eq_getElem_cons h, List.any_cons]
set_option maxRecDepth 20000 in
theorem zsu (P : List Nat) (hP : ∀ x ∈ P, x <= 1114111) (A : Option Addr) (cap B : Nat) (w : World) (hA : Has w B A P.length (P.map nvI)) (hB : B <= w.heap.size) (hl : P.length <= 1000000) :
 Calls Tryz.prog 226 #[.slice A P.length cap, .func (.func 215) #[] #[]] w fun e w' => ∃ r : Int, e = .returned (.int .i64 r) /\ decide (0 <= r) = P.any (fun x => decide (128 <= x)) /\ Below w.heap.size w w' := by
 have HA := jL hA
 have HP := jL hP
 have HL := jL hl
 clear hA hP hl
 go_enter Tryz.func226, Tryz.ntmps226
 go_wp2
 go_loopw [8] (fun i wr => ∃ k : Nat, k <= P.length /\ i = .int .i64 k /\ Hid (Below w.heap.size w wr /\ P.any (fun x => decide (128 <= x)) = (P.drop k).any (fun x => decide (128 <= x)))) (fun i _ => P.length - (RowKit.intOf i).toNat)
 case atStart => exact ⟨0, Nat.zero_le _, rfl, Below.refl _ _, by rw [List.drop_zero]⟩
 case round =>
  obtain ⟨k, hk, rfl, HR⟩ := hrel
  have hkb : (k : Int) <= 1000000 := by have := HL.out; omega
  by_cases hlt : k < P.length
  ·obtain ⟨b, off, rfl, hbw, hc⟩ := HA.out.2 (by omega)
   have h1 := hc k (by rw [List.length_map]; exact hlt)
   rw [List.getElem_map] at h1
   have d1 := (HR.out.1.cell (p := ⟨b, off + k, none⟩) (Nat.lt_of_lt_of_le hbw hB)).trans h1
   have hstep : Hid (P.any (fun x => decide (128 <= x)) = ((fun x => decide (128 <= x)) P[k] || (P.drop (k + 1)).any (fun x => decide (128 <= x)))) := by
    show _ = _
    rw [HR.out.2, zst P (fun x => decide (128 <= x)) k hlt]
   have hx := HP.out _ (List.getElem_mem hlt)
   obtain ⟨x, hxx⟩ : ∃ x, x = P[k] := ⟨_, rfl⟩
   rw [<- hxx] at d1 hstep hx
   clear hc h1 hxx
   have cF := zto x
   cases hb : (fun x => decide (128 <= x)) x with
   | true =>
     have HB := jL hb
     rw [show decide (128 <= x) = (fun x => decide (128 <= x)) x from rfl, hb] at cF
     clear hb
     go_wp2_with (go_at_call 215; refine (cF wr).mono ?_; rintro e w1 ⟨rfl, rfl⟩)
     go_ret
     refine ⟨k, rfl, ?_, HR.out.1⟩
     rw [hstep.out, HB.out, Bool.true_or, decide_eq_true_iff]
     omega
   | false =>
     have HB := jL hb
     rw [show decide (128 <= x) = (fun x => decide (128 <= x)) x from rfl, hb] at cF
     clear hb
     go_wp2_with (go_at_call 215; refine (cF wr).mono ?_; rintro e w1 ⟨rfl, rfl⟩)
     go_roundw
     case rel => exact ⟨k + 1, by omega, by go_num, HR.out.1, by rw [hstep.out, HB.out, Bool.false_or]⟩
     case measure => simp [RowKit.intOf]; omega
  ·have hkm : k = P.length := by omega
   have hz : Hid (P.any (fun x => decide (128 <= x)) = false) := by
    show _ = _
    rw [HR.out.2, hkm, List.drop_length]
    rfl
   have HBl := jL HR.out.1
   clear hkm
   go_wp2
   go_ret
   exact ⟨-1, rfl, by rw [hz.out]; decide, HBl.out⟩
theorem zsv (P : List Nat) (hP : ∀ x ∈ P, x <= 1114111) (A : Option Addr) (cap B : Nat) (w : World) (hA : Has w B A P.length (P.map nvI)) (hB : B <= w.heap.size) (hl : P.length <= 1000000) :
 Calls Tryz.prog 214 #[.slice A P.length cap, .func (.func 215) #[] #[]] w fun e w' => e = .returned (.bool (P.any (fun x => decide (128 <= x)))) /\ Below w.heap.size w w' := by
 have hc := zsu P hP A cap B w hA hB hl
 obtain ⟨R, hR⟩ : ∃ R, R = P.any (fun x => decide (128 <= x)) := ⟨_, rfl⟩
 rw [<- hR] at hc ⊢
 clear hP hA hl hR
 go_enter Tryz.func214, Tryz.ntmps214
 go_wp2_with (go_at_call 226; refine hc.mono ?_; rintro e w1 ⟨r, rfl, hr, hb1⟩; have HR := jL hr; clear hr)
 go_ret
 exact ⟨zbx (by rw [<- HR.out]), hb1⟩
set_option maxRecDepth 20000 in
theorem zsw (P : List Nat) (hP : ∀ x ∈ P, x <= 1114111) (A : Option Addr) (cap B : Nat) (w : World) (hA : Has w B A P.length (P.map nvI)) (hB : B <= w.heap.size) (hl : P.length <= 1000000) :
 Calls Tryz.prog 226 #[.slice A P.length cap, .func (.func 216) #[] #[]] w fun e w' => ∃ r : Int, e = .returned (.int .i64 r) /\ decide (0 <= r) = P.any zr4 /\ Below w.heap.size w w' := by
 have HA := jL hA
 have HP := jL hP
 have HL := jL hl
 clear hA hP hl
 go_enter Tryz.func226, Tryz.ntmps226
 go_wp2
 go_loopw [8] (fun i wr => ∃ k : Nat, k <= P.length /\ i = .int .i64 k /\ Hid (Below w.heap.size w wr /\ P.any zr4 = (P.drop k).any zr4)) (fun i _ => P.length - (RowKit.intOf i).toNat)
 case atStart => exact ⟨0, Nat.zero_le _, rfl, Below.refl _ _, by rw [List.drop_zero]⟩
 case round =>
  obtain ⟨k, hk, rfl, HR⟩ := hrel
  have hkb : (k : Int) <= 1000000 := by have := HL.out; omega
  by_cases hlt : k < P.length
  ·obtain ⟨b, off, rfl, hbw, hc⟩ := HA.out.2 (by omega)
   have h1 := hc k (by rw [List.length_map]; exact hlt)
   rw [List.getElem_map] at h1
   have d1 := (HR.out.1.cell (p := ⟨b, off + k, none⟩) (Nat.lt_of_lt_of_le hbw hB)).trans h1
   have hstep : Hid (P.any zr4 = (zr4 P[k] || (P.drop (k + 1)).any zr4)) := by
    show _ = _
    rw [HR.out.2, zst P zr4 k hlt]
   have hx := HP.out _ (List.getElem_mem hlt)
   obtain ⟨x, hxx⟩ : ∃ x, x = P[k] := ⟨_, rfl⟩
   rw [<- hxx] at d1 hstep hx
   clear hc h1 hxx
   have cF := ztp x
   cases hb : zr4 x with
   | true =>
     have HB := jL hb
     rw [show zr4 x = zr4 x from rfl, hb] at cF
     clear hb
     go_wp2_with (go_at_call 216; refine (cF wr).mono ?_; rintro e w1 ⟨rfl, rfl⟩)
     go_ret
     refine ⟨k, rfl, ?_, HR.out.1⟩
     rw [hstep.out, HB.out, Bool.true_or, decide_eq_true_iff]
     omega
   | false =>
     have HB := jL hb
     rw [show zr4 x = zr4 x from rfl, hb] at cF
     clear hb
     go_wp2_with (go_at_call 216; refine (cF wr).mono ?_; rintro e w1 ⟨rfl, rfl⟩)
     go_roundw
     case rel => exact ⟨k + 1, by omega, by go_num, HR.out.1, by rw [hstep.out, HB.out, Bool.false_or]⟩
     case measure => simp [RowKit.intOf]; omega
  ·have hkm : k = P.length := by omega
   have hz : Hid (P.any zr4 = false) := by
    show _ = _
    rw [HR.out.2, hkm, List.drop_length]
    rfl
   have HBl := jL HR.out.1
   clear hkm
   go_wp2
   go_ret
   exact ⟨-1, rfl, by rw [hz.out]; decide, HBl.out⟩
theorem zsx (P : List Nat) (hP : ∀ x ∈ P, x <= 1114111) (A : Option Addr) (cap B : Nat) (w : World) (hA : Has w B A P.length (P.map nvI)) (hB : B <= w.heap.size) (hl : P.length <= 1000000) :
 Calls Tryz.prog 214 #[.slice A P.length cap, .func (.func 216) #[] #[]] w fun e w' => e = .returned (.bool (P.any zr4)) /\ Below w.heap.size w w' := by
 have hc := zsw P hP A cap B w hA hB hl
 obtain ⟨R, hR⟩ : ∃ R, R = P.any zr4 := ⟨_, rfl⟩
 rw [<- hR] at hc ⊢
 clear hP hA hl hR
 go_enter Tryz.func214, Tryz.ntmps214
 go_wp2_with (go_at_call 226; refine hc.mono ?_; rintro e w1 ⟨r, rfl, hr, hb1⟩; have HR := jL hr; clear hr)
 go_ret
 exact ⟨zbx (by rw [<- HR.out]), hb1⟩
end

section
open Go.RowKit
set_option maxHeartbeats 16000000
theorem z3a (P : List Nat) (k : Nat) (hk : k < P.length) : yaj (P.take (k + 1)) = yaj (P.take k) ++ yai P[k] := by
 rw [List.take_succ_eq_append_getElem hk]
 unfold yaj
 rw [List.flatMap_append]
 simp
theorem z3b : ∀ (P : List Nat), (yaj P).length <= 4 * P.length
 | [] => jH
 | q :: P => by
   have e : (yaj (q :: P)).length = (yai q).length + (yaj P).length := by
    show (yai q ++ yaj P).length = _
    rw [List.length_append]
   have := (yay q).2.2.2
   have := z3b P
   rw [e, List.length_cons]
   omega
end

section
open Go.RowKit
set_option maxHeartbeats 16000000
set_option maxRecDepth 20000 in
theorem zsy (s : ByteArray) (P : List Nat) (hp : yah (ls s) = some P) (w : World) (hs : s.size <= 1000000000) (hT : U8 w) :
 Calls Tryz.prog 182 #[.string s] w fun e w' => (∃ v, e = .returned v /\ w'.ownsRow w.heap.size 3 1 v P.length (P.map nvI)) /\ Below w.heap.size w w' := by
 obtain ⟨i3, hi3, hz0, hz1, hz2⟩ := info_parts zzu
 have HPT := jL (yax hp).1
 have hPl : P.length <= s.size := by
  have h1 := (yaz P).1
  rw [(yax hp).2, zb4] at h1
  exact h1
 have HPL := jL (Nat.le_trans hPl hs)
 have HT := jL hT
 have HP0 := jL hp
 clear hPl hs hT hp
 go_enter Tryz.func182, Tryz.ntmps182
 go_wp2
 go_loopg [0, 3] s.size (fun g sv v wr => ∃ (t : ByteArray) (Q acc : List Nat), g = t.size /\ sv = .string t /\ Hid (yah (ls t) = some Q) /\ Hid (acc ++ Q = P) /\ wr.ownsRow w.heap.size 3 1 v acc.length (acc.map nvI) /\ Below w.heap.size w wr)
 case atStart => exact ⟨s, P, [], rfl, rfl, HP0, rfl, World.ownsRow_nil _ _ _ _, Below.refl _ _⟩
 case round =>
  obtain ⟨t, Q, acc, hg, rfl, HQ, HA, hown, hb⟩ := hrel
  have HG := jL hg
  clear hg
  have hal : acc.length <= 1000000000 := by
   have := HPL.out
   rw [<- HA.out, List.length_append] at this
   omega
  by_cases h0 : t.size = 0
  ·have he : t.toList.isEmpty = true := by rw [zb3]; exact List.isEmpty_iff.2 (List.eq_nil_of_length_eq_zero (by rw [zb4]; exact h0))
   have HE : Hid (acc = P) := by
    have hn : ls t = [] := List.eq_nil_of_length_eq_zero (by rw [zb4]; exact h0)
    have h1 := HQ.out
    rw [hn, yan] at h1
    injection h1 with h1
    have h2 := HA.out
    rw [<- h1, List.append_nil] at h2
    exact h2
   clear h0
   go_wp2
   go_ret
   rw [<- HE.out]
   exact ⟨⟨_, rfl, hown⟩, hb⟩
  ·have he : t.toList.isEmpty = false := by rw [zb3]; exact zsh h0
   obtain ⟨p, Q2, hQ2⟩ : ∃ p Q2, Q = p :: Q2 := by
    cases Q with
    | nil =>
      exfalso
      have h1 := (yax HQ.out).2
      have := congrArg List.length h1
      rw [zb4] at this
      exact h0 this.symm
    | cons p Q2 => exact ⟨p, Q2, rfl⟩
   have hq := HQ.out
   rw [hQ2] at hq
   obtain ⟨k, hk1, hk2, hk3, cD⟩ := zts hq
   have hpt : ptN p = true := HPT.out p (by rw [<- HA.out, hQ2]; simp)
   have hple := zyz hpt
   have HX : Hid (yah (ls (t.extract k t.size)) = some Q2) := by
    show _ = _
    rw [zb9, List.take_of_length_le (by rw [List.length_drop, zb4]; exact jH)]
    exact hk3
   have HA2 : Hid ((acc ++ [p]) ++ Q2 = P) := by show _ = _; rw [<- HA.out, hQ2]; simp
   have c1 := cD wr (z3n HT.out hb)
   have hkz : (k : Int) <= (t.size : Int) := by omega
   have hk0 : (0 : Int) <= (k : Int) := by omega
   have hp0 : (0 : Int) <= (p : Int) := by omega
   have hp1 : (p : Int) <= 1114111 := by omega
   clear hq hQ2 hk3 cD hpt hple h0
   go_wp2_with fail
   refine c1.mono ?_
   rintro e w1 ⟨rfl, hb1⟩
   have hown1 := zaq hown hb1
   replace hb1 := hb.trans (hb1.mono hb.size)
   clear hown
   go_wp2_with (at_builtin; refine zcq _ rfl _ _ 108 rfl w.heap.size 3 i3 (.int .i64 0) 8 zzt hi3 hz0 hz1 hz2 rfl _ (by exact rfl) _ _ _ (by exact rfl) hown1 (by exact rfl) (by unfold maxLen; omega) (by omega) hb1 jH ?_; intro v' w' hown' hb' _)
   go_roundg (t.size - k)
   case rel =>
    refine ⟨_, Q2, acc ++ [p], ?_, rfl, HX, HA2, ?_, hb'⟩
    ·rw [ByteArray.size_extract]; omega
    ·rw [List.length_append, List.map_append]
     exact hown'
   case measure => have := HG.out; omega
set_option maxRecDepth 20000 in
theorem zsz (P : List Nat) (hP : ∀ x ∈ P, ptN x = true) (A : Option Addr) (cap B : Nat) (w : World) (hA : Has w B A P.length (P.map nvI)) (hB : B <= w.heap.size) (hl : P.length <= 100000000) :
 Calls Tryz.prog 196 #[.slice A P.length cap] w fun e w' => e = .returned (.string (bs (yaj P))) /\ Below w.heap.size w w' := by
 have HA := jL hA
 have HPT := jL hP
 have HL := jL hl
 clear hA hP hl
 go_enter Tryz.func196, Tryz.ntmps196
 go_wp2
 go_loopw [3, 8] (fun v i wr => ∃ k : Nat, k <= P.length /\ i = .int .i64 k /\ wr.ownsRow w.heap.size 5 1 v (yaj (P.take k)).length ((yaj (P.take k)).map bv) /\ Below w.heap.size w wr) (fun _ i _ => P.length - (RowKit.intOf i).toNat)
 case atStart => exact ⟨0, Nat.zero_le _, rfl, World.ownsRow_nil _ _ _ _, Below.refl _ _⟩
 case round =>
  obtain ⟨k, hk, rfl, hown, hb⟩ := hrel
  have hkb : (k : Int) <= 100000000 := by have := HL.out; omega
  by_cases hlt : k < P.length
  ·obtain ⟨b, off, rfl, hbw, hc⟩ := HA.out.2 (by omega)
   have h1 := hc k (by rw [List.length_map]; exact hlt)
   rw [List.getElem_map] at h1
   have d1 := (hb.cell (p := ⟨b, off + k, none⟩) (Nat.lt_of_lt_of_le hbw hB)).trans h1
   have hpt := HPT.out _ (List.getElem_mem hlt)
   have hsn := jL (z3a P k hlt)
   have hkl : (yaj (P.take k)).length <= 400000000 := by
    have h2 := z3b (P.take k)
    have h3 := HL.out
    rw [List.length_take] at h2
    omega
   obtain ⟨x, hx⟩ : ∃ x, x = P[k] := ⟨_, rfl⟩
   rw [<- hx] at d1 hpt hsn
   have hple := zyz hpt
   have hp0 : (0 : Int) <= (x : Int) := by omega
   have hp1 : (x : Int) <= 1114111 := by omega
   have hkd : decide ((k : Int) < (P.length : Int)) = true := jT (by omega)
   have cA := fun v n l hv hn => ztt (w0 := w) (w := wr) (B := w.heap.size) (v := v) (n := n) (l := l) hpt hv hn hb jH
   have c1 := cA _ _ _ hown (by omega)
   have hlen : Hid ((yaj (P.take (k + 1))).length = (yaj (P.take k)).length + (yai x).length) := by show _ = _; rw [hsn.out, List.length_append]
   clear hc h1 hx cA hpt hple hkl
   go_wp2_with fail
   refine c1.mono ?_
   rintro e w1 ⟨v', rfl, hown', hb'⟩
   clear hown c1
   go_wp2
   go_roundw
   case rel =>
    refine ⟨k + 1, by omega, by go_num, ?_, hb'⟩
    rw [hlen.out, hsn.out]
    exact hown'
   case measure => simp [RowKit.intOf]; omega
  ·obtain rfl : k = P.length := by omega
   have hkd : decide ((P.length : Int) < (P.length : Int)) = false := by simp
   rw [List.take_length] at hown
   have hconv := z3h wr _ _ _ _ hown
   go_wp2
   go_ret
   exact ⟨rfl, hb⟩
end

section
open Go.RowKit
set_option maxHeartbeats 16000000
theorem zz4 (z : Int) (w : World) :
 Calls Tryz.prog 202 #[.int .i64 z] w fun e w' => e = .returned (.bool (ptZ z)) /\ w = w' := by
 by_cases h0 : 0 <= z
 ·by_cases h1 : z <= 1114111
  ·by_cases h2 : z < 55296
   ·have HE : Hid (ptZ z = true) := by show _ = _; unfold ptZ ptN; simp; omega
    have d0 : decide ((0 : Int) <= z) = true := jT h0
    have d1 : decide (z <= 1114111) = true := jT h1
    have d2 : decide (z < 55296) = true := jT h2
    go_enter Tryz.func202, Tryz.ntmps202
    go_wp2
    go_ret
    exact ⟨zbx HE.out.symm, rfl⟩
   ·by_cases h3 : 57343 < z
    ·have HE : Hid (ptZ z = true) := by show _ = _; unfold ptZ ptN; simp; omega
     have d0 : decide ((0 : Int) <= z) = true := jT h0
     have d1 : decide (z <= 1114111) = true := jT h1
     have d2 : decide (z < 55296) = false := jF h2
     have d3 : decide ((57343 : Int) < z) = true := jT h3
     go_enter Tryz.func202, Tryz.ntmps202
     go_wp2
     go_ret
     exact ⟨zbx HE.out.symm, rfl⟩
    ·have HE : Hid (ptZ z = false) := by show _ = _; unfold ptZ ptN; simp; omega
     have d0 : decide ((0 : Int) <= z) = true := jT h0
     have d1 : decide (z <= 1114111) = true := jT h1
     have d2 : decide (z < 55296) = false := jF h2
     have d3 : decide ((57343 : Int) < z) = false := jF h3
     go_enter Tryz.func202, Tryz.ntmps202
     go_wp2
     go_ret
     exact ⟨zbx HE.out.symm, rfl⟩
  ·have HE : Hid (ptZ z = false) := by show _ = _; unfold ptZ ptN; simp; omega
   have d0 : decide ((0 : Int) <= z) = true := jT h0
   have d1 : decide (z <= 1114111) = false := jF h1
   go_enter Tryz.func202, Tryz.ntmps202
   go_wp2
   go_ret
   exact ⟨zbx HE.out.symm, rfl⟩
 ·have HE : Hid (ptZ z = false) := by show _ = _; unfold ptZ; simp; omega
  have d0 : decide ((0 : Int) <= z) = false := jF h0
  go_enter Tryz.func202, Tryz.ntmps202
  go_wp2
  go_ret
  exact ⟨zbx HE.out.symm, rfl⟩
theorem zz5 (d : Nat) (hd : d < 36) (w : World) :
 Calls Tryz.prog 218 #[.int .i64 (d : Int)] w fun e w' => e = .returned (.int .u8 ((zza d).toNat : Int)) /\ w = w' := by
 by_cases h : d < 26
 ·have d1 : decide ((d : Int) < 26) = true := jT (by omega)
  have HE : Hid (((zza d).toNat : Int) = 97 + (d : Int)) := by
   show _ = _
   unfold zza
   rw [if_pos h, UInt8.toNat_ofNat']
   omega
  go_enter Tryz.func218, Tryz.ntmps218
  go_wp2
  go_ret
  exact ⟨zby HE.out.symm, rfl⟩
 ·have d1 : decide ((d : Int) < 26) = false := jF (by omega)
  have HE : Hid (((zza d).toNat : Int) = 48 + ((d : Int) - 26)) := by
   show _ = _
   unfold zza
   rw [if_neg h, UInt8.toNat_ofNat']
   omega
  go_enter Tryz.func218, Tryz.ntmps218
  go_wp2
  go_ret
  exact ⟨zby HE.out.symm, rfl⟩
def dvN (b : UInt8) : Nat := match zzb b with
 | some d => d
 | none => 36
theorem zz6 {b : UInt8} {d : Nat} (h : zzb b = some d) : dvN b = d := by unfold dvN; rw [h]
theorem zz7 {b : UInt8} (h : zzb b = none) : dvN b = 36 := by unfold dvN; rw [h]
theorem zz8 (b : UInt8) (w : World) :
 Calls Tryz.prog 230 #[.int .u8 (b.toNat : Int)] w fun e w' => e = .returned (.int .i64 (dvN b : Nat)) /\ w = w' := by
 have hlt := b.toNat_lt
 by_cases h1 : 97 <= b.toNat /\ b.toNat <= 122
 ·have HE : Hid (((dvN b : Nat) : Int) = (b.toNat : Int) - 97) := by show _ = _; unfold dvN zzb; rw [if_pos h1]; show ((b.toNat - 97 : Nat) : Int) = _; omega
  have d1 : decide ((97 : Int) <= (b.toNat : Int)) = true := jT (by omega)
  have d2 : decide ((b.toNat : Int) <= 122) = true := jT (by omega)
  go_enter Tryz.func230, Tryz.ntmps230
  go_wp2
  go_ret
  exact ⟨zby HE.out.symm, rfl⟩
 ·by_cases h2 : 65 <= b.toNat /\ b.toNat <= 90
  ·have HE : Hid (((dvN b : Nat) : Int) = (b.toNat : Int) - 65) := by show _ = _; unfold dvN zzb; rw [if_neg h1, if_pos h2]; show ((b.toNat - 65 : Nat) : Int) = _; omega
   have d1 : decide ((97 : Int) <= (b.toNat : Int)) = false := jF (by omega)
   have d2 : decide ((65 : Int) <= (b.toNat : Int)) = true := jT (by omega)
   have d3 : decide ((b.toNat : Int) <= 90) = true := jT (by omega)
   go_enter Tryz.func230, Tryz.ntmps230
   go_wp2
   go_ret
   exact ⟨zby HE.out.symm, rfl⟩
  ·by_cases h3 : 48 <= b.toNat /\ b.toNat <= 57
   ·have HE : Hid (((dvN b : Nat) : Int) = 26 + ((b.toNat : Int) - 48)) := by show _ = _; unfold dvN zzb; rw [if_neg h1, if_neg h2, if_pos h3]; show ((b.toNat - 22 : Nat) : Int) = _; omega
    have d1 : decide ((97 : Int) <= (b.toNat : Int)) = false := jF (by omega)
    have d2 : decide ((65 : Int) <= (b.toNat : Int)) = false := jF (by omega)
    have d3 : decide ((48 : Int) <= (b.toNat : Int)) = true := jT (by omega)
    have d4 : decide ((b.toNat : Int) <= 57) = true := jT (by omega)
    go_enter Tryz.func230, Tryz.ntmps230
    go_wp2
    go_ret
    exact ⟨zby HE.out.symm, rfl⟩
   ·have HE : Hid (((dvN b : Nat) : Int) = 36) := by show _ = _; unfold dvN zzb; rw [if_neg h1, if_neg h2, if_neg h3]; rfl
    have c1 : (decide ((97 : Int) <= (b.toNat : Int)) && decide ((b.toNat : Int) <= 122)) = false := by rw [Bool.and_eq_false_iff, decide_eq_false_iff_not, decide_eq_false_iff_not]; omega
    have c2 : (decide ((65 : Int) <= (b.toNat : Int)) && decide ((b.toNat : Int) <= 90)) = false := by rw [Bool.and_eq_false_iff, decide_eq_false_iff_not, decide_eq_false_iff_not]; omega
    have c3 : (decide ((48 : Int) <= (b.toNat : Int)) && decide ((b.toNat : Int) <= 57)) = false := by rw [Bool.and_eq_false_iff, decide_eq_false_iff_not, decide_eq_false_iff_not]; omega
    go_enter Tryz.func230, Tryz.ntmps230
    go_wp2
    all_goals (go_ret; exact ⟨zby HE.out.symm, rfl⟩)
theorem zz9 (delta n : Nat) (first : Bool) (hd : delta <= 2199023255552) (hn : 1 <= n) (hn2 : n <= 1000000000) (w : World) :
 Calls Tryz.prog 206 #[.int .i64 (delta : Int), .int .i64 (n : Int), .bool first] w fun e w' => e = .returned (.int .i64 (adp delta n first : Nat)) /\ w = w' := by
 obtain ⟨R, hR⟩ : ∃ R, R = adp delta n first := ⟨_, rfl⟩
 rw [<- hR]
 have e700 : Int.tdiv (delta : Int) 700 = ((delta / 700 : Nat) : Int) := by rw [Int.tdiv_eq_ediv_of_nonneg (by omega)]; omega
 have e2 : Int.tdiv (delta : Int) 2 = ((delta / 2 : Nat) : Int) := by rw [Int.tdiv_eq_ediv_of_nonneg (by omega)]; omega
 have key : ∀ d0 : Nat, d0 <= 1099511627776 -> Int.tdiv (d0 : Int) (n : Int) = ((d0 / n : Nat) : Int) := by
  intro d0 _
  rw [Int.tdiv_eq_ediv_of_nonneg (by omega)]
  exact (Int.natCast_ediv d0 n).symm
 have hn0 : ¬ (n : Int) = 0 := by omega
 cases first with
 | true =>
   obtain ⟨d0, hd0⟩ : ∃ d0 : Nat, d0 = delta / 700 := ⟨_, rfl⟩
   have hb0 : d0 <= 1099511627776 := by omega
   have k0 := key d0 hb0
   obtain ⟨q, hq⟩ : ∃ q : Nat, q = d0 / n := ⟨_, rfl⟩
   have hqb : q <= d0 := by rw [hq]; exact Nat.div_le_self _ _
   rw [<- hq] at k0
   rw [<- hd0] at e700
   have HA : Hid (zy1 (d0 + q) 0 = R) := jL (by rw [hR, hq, hd0]; rfl)
   clear key hq hd0 hR e2
   go_enter Tryz.func206, Tryz.ntmps206
   go_wp2
   go_loop [0, 7] (fun d k => ∃ D K : Nat, d = .int .i64 D /\ k = .int .i64 K /\ K + D <= 4398046511104 /\ Hid (zy1 D K = R)) (fun d _ => (intOf d).toNat)
   case atStart => exact ⟨d0 + q, 0, by go_num, rfl, by omega, HA⟩
   case round =>
    obtain ⟨D, K, rfl, rfl, hDK, HG⟩ := hrel
    by_cases h455 : 455 < D
    ·have hc : decide ((455 : Int) < (D : Int)) = true := jT (by omega)
     have h35 : Int.tdiv (D : Int) 35 = ((D / 35 : Nat) : Int) := by rw [Int.tdiv_eq_ediv_of_nonneg (by omega)]; omega
     have HG2 : Hid (zy1 (D / 35) (K + 36) = R) := by
      show _ = _
      rw [<- HG.out, zy1.eq_def D K, if_pos h455]
     go_wp2
     go_round
     case rel => exact ⟨D / 35, K + 36, by go_num, by go_num, by omega, HG2⟩
     case measure => simp [intOf]; omega
    ·have hc : decide ((455 : Int) < (D : Int)) = false := jF (by omega)
     have h38 : Int.tdiv (36 * (D : Int)) ((D : Int) + 38) = ((36 * D / (D + 38) : Nat) : Int) := by
      rw [Int.tdiv_eq_ediv_of_nonneg (by omega)]
      exact (Int.natCast_ediv (36 * D) (D + 38)).symm
     have hq2 : 36 * D / (D + 38) <= 36 := by
      refine Nat.div_le_of_le_mul ?_
      rw [Nat.add_mul]
      omega
     have hne : ¬ (D : Int) + 38 = 0 := by omega
     have HG2 : Hid (((K + 36 * D / (D + 38) : Nat) : Int) = (R : Int)) := by
      show _ = _
      rw [<- HG.out, zy1.eq_def D K, if_neg h455]
     obtain ⟨z, hz⟩ : ∃ z, z = 36 * D / (D + 38) := ⟨_, rfl⟩
     rw [<- hz] at h38 hq2 HG2
     clear hz
     go_wp2
     go_ret
     exact ⟨zby (by rw [<- HG2.out]; omega), rfl⟩
 | false =>
   obtain ⟨d0, hd0⟩ : ∃ d0 : Nat, d0 = delta / 2 := ⟨_, rfl⟩
   have hb0 : d0 <= 1099511627776 := by omega
   have k0 := key d0 hb0
   obtain ⟨q, hq⟩ : ∃ q : Nat, q = d0 / n := ⟨_, rfl⟩
   have hqb : q <= d0 := by rw [hq]; exact Nat.div_le_self _ _
   rw [<- hq] at k0
   rw [<- hd0] at e2
   have HA : Hid (zy1 (d0 + q) 0 = R) := jL (by rw [hR, hq, hd0]; rfl)
   clear key hq hd0 hR e700
   go_enter Tryz.func206, Tryz.ntmps206
   go_wp2
   go_loop [0, 7] (fun d k => ∃ D K : Nat, d = .int .i64 D /\ k = .int .i64 K /\ K + D <= 4398046511104 /\ Hid (zy1 D K = R)) (fun d _ => (intOf d).toNat)
   case atStart => exact ⟨d0 + q, 0, by go_num, rfl, by omega, HA⟩
   case round =>
    obtain ⟨D, K, rfl, rfl, hDK, HG⟩ := hrel
    by_cases h455 : 455 < D
    ·have hc : decide ((455 : Int) < (D : Int)) = true := jT (by omega)
     have h35 : Int.tdiv (D : Int) 35 = ((D / 35 : Nat) : Int) := by rw [Int.tdiv_eq_ediv_of_nonneg (by omega)]; omega
     have HG2 : Hid (zy1 (D / 35) (K + 36) = R) := by
      show _ = _
      rw [<- HG.out, zy1.eq_def D K, if_pos h455]
     go_wp2
     go_round
     case rel => exact ⟨D / 35, K + 36, by go_num, by go_num, by omega, HG2⟩
     case measure => simp [intOf]; omega
    ·have hc : decide ((455 : Int) < (D : Int)) = false := jF (by omega)
     have h38 : Int.tdiv (36 * (D : Int)) ((D : Int) + 38) = ((36 * D / (D + 38) : Nat) : Int) := by
      rw [Int.tdiv_eq_ediv_of_nonneg (by omega)]
      exact (Int.natCast_ediv (36 * D) (D + 38)).symm
     have hq2 : 36 * D / (D + 38) <= 36 := by
      refine Nat.div_le_of_le_mul ?_
      rw [Nat.add_mul]
      omega
     have hne : ¬ (D : Int) + 38 = 0 := by omega
     have HG2 : Hid (((K + 36 * D / (D + 38) : Nat) : Int) = (R : Int)) := by
      show _ = _
      rw [<- HG.out, zy1.eq_def D K, if_neg h455]
     obtain ⟨z, hz⟩ : ∃ z, z = 36 * D / (D + 38) := ⟨_, rfl⟩
     rw [<- hz] at h38 hq2 HG2
     clear hz
     go_wp2
     go_ret
     exact ⟨zby (by rw [<- HG2.out]; omega), rfl⟩
end

end Go.Proofs.YtekaljeicfjkjaaGreatDoor
