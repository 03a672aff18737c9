/-
parsePort: the port of a text of digits, or the default.
copyOf: a URL whose parts are copies.
textOf: the text of a URL.
parseSpecial: a URL of a special scheme, behind its colon.
Contract of Lower of package ascii.
-/
import Derived.Test.YtekaljeicfjkjaaGreatDoorK23
import Derived.Test.YtekaljeicfjkjaaGreatDoorShelfP
import Derived.Test.YtekaljeicfjkjaaGreatDoorK22
import Derived.Test.YtekaljeicfjkjaaGreatDoorK17
import Derived.Test.YtekaljeicfjkjaaGreatDoorShelf
import Derived.Lib.ItoaLen
import Derived.Test.YtekaljeicfjkjaaGreatDoorK07
import Derived.Test.YtekaljeicfjkjaaGreatDoorK01
namespace Go.Proofs.YtekaljeicfjkjaaGreatDoor
section
open Go.RowKit Go.Shelf
set_option maxHeartbeats 16000000
theorem z5h : ∀ (l : List UInt8) (a : Nat), a <= zqf 10 a l
 | [], a => jH
 | c :: r, a => by
   have := z5h r (a * 10 + zqe c)
   show a <= zqf 10 (a * 10 + zqe c) r
   omega
theorem z5i (c : UInt8) : zbe c = true ↔ 48 <= c.toNat /\ c.toNat <= 57 := by
 unfold zbe zbc
 simp only [Bool.and_eq_true, decide_eq_true_eq]
 omega
theorem z5j {c : UInt8} (h : 48 <= c.toNat /\ c.toNat <= 57) : zqe c = c.toNat - 48 := by unfold zqe; rw [if_pos h]
def z5k : Lib.NumEnd Nat := Lib.parseUintB 16 []
theorem z5l : ∀ (l : List UInt8) (acc : Nat), acc <= 65535 ->
 (l.all zbe = true /\ zqf 10 acc l <= 65535 /\ Lib.parseUintM 65535 acc l = .ok (zqf 10 acc l)) \/ ((l.all zbe = true -> 65535 < zqf 10 acc l) /\ (Lib.parseUintM 65535 acc l = z5k \/ Lib.parseUintM 65535 acc l = .range))
 | [], acc, h => .inl ⟨rfl, h, rfl⟩
 | c :: r, acc, h => by
   unfold Lib.parseUintM
   by_cases hc : 48 <= c.toNat /\ c.toNat <= 57
   ·rw [if_pos hc, if_neg (by omega)]
    have e : zqf 10 acc (c :: r) = zqf 10 (acc * 10 + (c.toNat - 48)) r := by rw [<- z5j hc]; rfl
    have ea : (c :: r).all zbe = r.all zbe := by rw [List.all_cons, (z5i c).2 hc, Bool.true_and]
    rw [e, ea]
    by_cases h2 : 65535 < acc * 10 + (c.toNat - 48)
    ·rw [if_pos h2]
     right
     refine ⟨fun _ => ?_, .inr rfl⟩
     have := z5h r (acc * 10 + (c.toNat - 48))
     omega
    ·rw [if_neg h2]
     exact z5l r _ (by omega)
   ·rw [if_neg hc]
    right
    refine ⟨fun h3 => ?_, .inl rfl⟩
    rw [List.all_cons, Bool.and_eq_true] at h3
    exact absurd ((z5i c).1 h3.1) hc
def z5m (w : World) : Prop := ∃ te pe, w.cell? ⟨5, 0, none⟩ = some (.iface te pe)
theorem z5n {w w' : World} (h : z5m w) (hb : Below w.heap.size w w') : z5m w' := by
 obtain ⟨te, pe, hc⟩ := h
 refine ⟨te, pe, (hb.cell ?_).trans hc⟩
 unfold World.cell? at hc
 cases ho : w.heap[(5 : Nat)]? with
 | none => simp [ho] at hc
 | some o => exact (Array.getElem?_eq_some_iff.1 ho).1
def z5o (T : ByteArray) (w : World) (e : Ending) (w' : World) : Prop :=
 ((ls T).all zbe = true /\ zqf 10 0 (ls T) <= 65535 /\ e = .returned (.tuple #[.int .u64 ((zqf 10 0 (ls T) : Nat) : Int), .nilIface]) \/
   ((ls T).all zbe = true -> 65535 < zqf 10 0 (ls T)) /\ ∃ (v : Int) (N : Nat), e = .returned (.tuple #[.int .u64 v, .iface 156 (.pointer (some ⟨N, 0, none⟩))])) /\ Below w.heap.size w w'
theorem z5p (T : ByteArray) (hT : T.size <= 1000000000) (hne : ls T ≠ []) (w : World) (hS : zey w) (hR : z5m w) : Calls Tryz.prog 114 #[.string T, .int .i64 10, .int .i64 16] w (z5o T w) := by
 have hu : Lib.parseUintB 16 T.data.toList = Lib.parseUintM 65535 0 (ls T) := by
  unfold Lib.parseUintB
  rw [if_neg (show ¬ T.data.toList = [] from hne)]
  rfl
 rcases z5l (ls T) 0 (by omega) with ⟨h1, h2, h3⟩ | ⟨h1, h2⟩
 ·refine (Any.strconv_ParseUint_10_at16_ok Tryz.laysPu14 T (by omega) _ (hu.trans h3) w).mono ?_
  rintro e w' ⟨rfl, hw⟩
  refine ⟨.inl ⟨h1, h2, rfl⟩, ?_⟩
  rcases hw with rfl | rfl
  ·exact Below.refl _ _
  ·exact Lib.bytesWorld_below _ _ _
 ·rcases h2 with h2 | h2
  ·obtain ⟨te, pe, hc⟩ := hS
   refine (Any.strconv_ParseUint_10_at16_syntax Tryz.laysPu14 T (by omega) (hu.trans h2) (.iface te pe) w hc (.inr ⟨te, pe, rfl⟩)).mono ?_
   rintro e w' ⟨N, rfl, _, _, hb⟩
   exact ⟨.inr ⟨h1, _, N, rfl⟩, hb⟩
  ·obtain ⟨te, pe, hc⟩ := hR
   refine (Any.strconv_ParseUint_10_at16_range Tryz.laysPu14 T (by omega) (hu.trans h2) (.iface te pe) w hc (.inr ⟨te, pe, rfl⟩)).mono ?_
   rintro e w' ⟨N, rfl, _, _, hb⟩
   exact ⟨.inr ⟨h1, _, N, rfl⟩, hb⟩
def z5q (T : ByteArray) (std : Int) (w : World) (e : Ending) (w' : World) : Prop :=
 (∃ p : Int, ∃ ok : Bool, e = .returned (.tuple #[.int .i64 p, .bool ok]) /\ z61 (ls T) std = (if ok = true then some p else none)) /\ Below w.heap.size w w'
theorem z5r (T : ByteArray) (std : Int) (hT : T.size <= 1000000000) (w : World) (hS : zey w) (hR : z5m w) : Calls Tryz.prog 85 #[.string T, .int .i64 std] w (z5q T std w) := by
 by_cases hne : ls T = []
 ·have HP : Hid (z61 (ls T) std = some (-1)) := jL (by unfold z61; rw [if_pos hne])
  have he : T.toList.isEmpty = true := by rw [Lib.toList_data]; show (ls T).isEmpty = true; rw [hne]; rfl
  clear hne
  go_enter Tryz.func85, Tryz.ntmps85
  go_wp2
  go_ret2
  exact ⟨⟨_, true, rfl, HP.out⟩, Below.refl _ _⟩
 ·have he : T.toList.isEmpty = false := by
   rw [Lib.toList_data]
   show (ls T).isEmpty = false
   cases h : ls T with
   | nil => exact absurd h hne
   | cons _ _ => rfl
  have c1 := z5p T hT hne w hS hR
  have hP0 : z61 (ls T) std = if (ls T).all zbe = true then (if 65535 < zqf 10 0 (ls T) then none else if (zqf 10 0 (ls T) : Int) = std then some (-1) else some (zqf 10 0 (ls T) : Int)) else none := by
   unfold z61
   rw [if_neg hne]
  unfold z5o at c1
  have HP0 := jL hP0
  clear hP0 hne hS hR
  by_cases hs : ((zqf 10 0 (ls T) : Nat) : Int) = std
  ·have HS := jL hs
   have hsb : (((zqf 10 0 (ls T) : Nat) : Int) == std) = true := by rw [hs]; simp
   clear hs
   go_enter Tryz.func85, Tryz.ntmps85
   go_wp2_with (go_at_call 114; refine c1.mono ?_; rintro e w1 ⟨⟨h1, h2, rfl⟩ | ⟨h1, v, N, rfl⟩, hb⟩)
   ·go_ret2
    exact ⟨⟨_, true, rfl, by rw [HP0.out, if_pos h1, if_neg (by omega), if_pos HS.out]; rfl⟩, hb⟩
   ·go_ret2
    refine ⟨⟨_, false, rfl, ?_⟩, hb⟩
    rw [HP0.out]
    by_cases h3 : (ls T).all zbe = true
    ·rw [if_pos h3, if_pos (h1 h3)]; rfl
    ·rw [if_neg h3]; rfl
  ·have HS := jL hs
   have hsb : (((zqf 10 0 (ls T) : Nat) : Int) == std) = false := by rw [beq_eq_false_iff_ne]; exact hs
   clear hs
   go_enter Tryz.func85, Tryz.ntmps85
   go_wp2_with (go_at_call 114; refine c1.mono ?_; rintro e w1 ⟨⟨h1, h2, rfl⟩ | ⟨h1, v, N, rfl⟩, hb⟩)
   ·go_ret2
    exact ⟨⟨_, true, rfl, by rw [HP0.out, if_pos h1, if_neg (by omega), if_neg HS.out]; rfl⟩, hb⟩
   ·go_ret2
    refine ⟨⟨_, false, rfl, ?_⟩, hb⟩
    rw [HP0.out]
    by_cases h3 : (ls T).all zbe = true
    ·rw [if_pos h3, if_pos (h1 h3)]; rfl
    ·rw [if_neg h3]; rfl
end

section
open Go.RowKit Go.Shelf
set_option maxHeartbeats 16000000
theorem z5s (w : World) : (zeroValue 28).run Tryz.prog w = .ok (.agg uz) w := (zero_of_info (P := Tryz.prog) (t := 28) (v := .agg uz) (n := 15) (by kernel_rfl)).1 w
theorem Row.frozen9 {w : World} {g : Nat} {t : TypeId} {c : Array Value} (h : Row w g t c) (k : Nat) : w.frozen? ⟨g, k, none⟩ = false := by
 have := h
 unfold Row at this
 simp [World.frozen?, this]
theorem Row.set_same9 {w : World} {g : Nat} {t : TypeId} {c : Array Value} {k : Nat} {v : Value} (h : Row w g t c) (hv : c[k]? = some v) : Row (w.setCell ⟨g, k, none⟩ v) g t c := by
 rw [setCell_eq_setRow w g k c t (0, 0) v h, z9h hv]
 exact setRow_heap w g c c t _ h
theorem Row.set_other9 {w : World} {g b k : Nat} {t : TypeId} {c : Array Value} {v : Value} (h : Row w g t c) (hne : g ≠ b) : Row (w.setCell ⟨b, k, none⟩ v) g t c :=
 (Below.heap_setCell w ⟨b, k, none⟩ v g hne).trans h
structure CpSt (w0 W : World) (g1 g2 : Nat) (C : Array Value) : Prop where
 r1 : z89 W g1 C
 r2 : z89 W g2 uz
 bel : Below w0.heap.size w0 W
 ne : g2 ≠ g1
 le1 : w0.heap.size <= g1
 le2 : w0.heap.size <= g2
theorem CpSt.below {w0 W W' : World} {g1 g2 : Nat} {C : Array Value} (h : CpSt w0 W g1 g2 C) (hb : Below W.heap.size W W') : CpSt w0 W' g1 g2 C :=
 ⟨Row.below h.r1 hb (Row.lt h.r1), Row.below h.r2 hb (Row.lt h.r2), h.bel.trans (hb.mono h.bel.size), h.ne, h.le1, h.le2⟩
theorem CpSt.set {w0 W : World} {g1 g2 : Nat} {C : Array Value} {k : Nat} {v : Value} (h : CpSt w0 W g1 g2 C) (hv : C[k]? = some v) : CpSt w0 (W.setCell ⟨g1, k, none⟩ v) g1 g2 C :=
 ⟨Row.set_same9 h.r1 hv, Row.set_other9 h.r2 h.ne, h.bel.setCell (p := ⟨g1, k, none⟩) h.le1 _, h.ne, h.le1, h.le2⟩
theorem z5t {C : Array Value} {S U N : ByteArray} {H : Array Value} {p : Int} {R : ByteArray} (hC : UC C S U N H p R) (hS : S.size <= 1000000000) (hU : U.size <= 1000000000) (hN : N.size <= 1000000000) (hR : R.size <= 1000000000) (w : World) :
 Calls Tryz.prog 41 #[.agg C] w fun e w' => e = .returned (.agg C) /\ Below w.heap.size w w' := by
 go_enter Tryz.func41, Tryz.ntmps41
 go_wp2_with (first
  | (refine zax _ rfl 1 rfl _ _ rfl _ C (by exact rfl) (by exact rfl) ?_; intro W1 g1 hg1 hl1 hR1 hG1; have hbw := zav (Below.refl w.heap.size w) hG1 jH)
  | (refine zay _ rfl 2 rfl _ rfl uz z5s ?_
     intro W2 g2 hg2 hl2 hR2 hG2
     have hSt : CpSt w W2 g1 g2 C := ⟨hR1.grown0 hG2, hR2, zav hbw hG2 jH, by omega, hg1, by have := hbw.size; omega⟩
     obtain ⟨e0, e1, e3, e13, e14⟩ := hC.cell hSt.r1)
  | (go_at_call 42
     refine (zur _ _ (by assumption)).mono ?_
     rintro e w5 ⟨rfl, hb5⟩
     first | replace hSt := hSt.below hb5 | replace hSt := (hSt.set hC.c0).below hb5 | replace hSt := (hSt.set hC.c1).below hb5 | replace hSt := (hSt.set hC.c3).below hb5
     clear hb5
     obtain ⟨e0, e1, e3, e13, e14⟩ := hC.cell hSt.r1
     have f0 := hSt.r1.frozen9 0
     have f1 := hSt.r1.frozen9 1
     have f3 := hSt.r1.frozen9 3
     have f14 := hSt.r1.frozen9 14)
  | refine z9b rfl _ rfl g1 (by exact rfl) C (hSt.set hC.c14).r1 hC.sz ?_
  | (refine z9d rfl rfl _ _ rfl g2 (by exact rfl) C (by exact rfl) uz (hSt.set hC.c14).r2 rfl hC.sz hC.one ?_
     intro w7 hR7 hG7
     have hb7 := zau (hSt.set hC.c14).bel hG7 jH hSt.le2))
 exact z9f 2 rfl g2 rfl C hR7 hC.sz rfl ⟨rfl, hb7⟩
end

section
open Go.RowKit Go.Shelf
set_option maxHeartbeats 16000000
theorem z5u (z : Int) (h0 : -9223372036854775808 <= z) (h1 : z <= 9223372036854775807) (w : World) (hp : Pow w) :
 Calls Tryz.prog 52 #[.int .i64 z] w fun e w' => e = .returned (.string (bs (Lib.itoa z))) /\ Below w.heap.size w w' := by
 refine (Any.strconv_Itoa Tryz.laysM171 z h0 h1 w hp).mono ?_
 rintro e w' ⟨rfl, k, os, rfl⟩
 refine ⟨rfl, ⟨rfl, rfl, rfl, ?_, fun i hi => ?_⟩⟩
 ·show w.heap.size <= (w.heap ++ os).size
  simp
 ·show (w.heap ++ os)[i]? = w.heap[i]?
  exact Array.getElem?_append_left hi
def z5v (p : Int) : List UInt8 := if p = -1 then [] else 58 :: Lib.itoa p
def z5w (u : Uv) : List UInt8 := if z6s u.scheme = true then u.scheme ++ 58 :: 47 :: 47 :: (z7a u.user ++ (zhz u.host ++ z5v u.port) ++ u.rest) else u.scheme ++ 58 :: u.rest
theorem z5x {u : Uv} (h : -1 <= u.port) : z5w u = z7c u := by
 have e : z5v u.port = z7b u.port := by
  unfold z5v z7b
  by_cases hp : u.port = -1
  ·rw [if_pos hp, if_pos hp]
  ·rw [if_neg hp, if_neg hp, Lib.itoa, if_neg (by omega)]
 unfold z5w z7c
 rw [e]
theorem z5y : ls ⟨#[64]⟩ = [64] := rfl
theorem z5z : ls ⟨#[58]⟩ = [58] := rfl
theorem z50 : ls ⟨#[47, 47]⟩ = [47, 47] := rfl
theorem z51 (hF : zf9 51) (u : Uv) (hw : u.host.Wf) (hn : u.host.name.length <= 1000000000) (hs1 : u.scheme.length <= 1000000000) (hs2 : u.user.length <= 1000000000) (hs3 : u.rest.length <= 1000000000) (h0 : -9223372036854775808 <= u.port) (h1 : u.port <= 9223372036854775807) (w : World) (hP : zw5 w) :
 Calls Tryz.prog 34 #[.agg u.cells] w fun e w' => e = .returned (.string (bs (z5w u))) /\ Below w.heap.size w w' := by
 have cF := fun W hW => hF u.host W hw hn hW
 unfold Hv.val at cF
 have hC := z9g u
 have hH : u.host.cells.size = 11 := rfl
 obtain ⟨C, hCe⟩ : ∃ C, C = u.cells := ⟨_, rfl⟩
 obtain ⟨H, hHe⟩ : ∃ H, H = u.host.cells := ⟨_, rfl⟩
 rw [<- hCe, <- hHe] at hC
 rw [<- hHe] at cF hH
 rw [<- hCe]
 have cs := fun W => z4g (bs u.scheme) W
 rw [zb0] at cs
 obtain ⟨T, hT⟩ : ∃ T, T = bs (z5w u) := ⟨_, rfl⟩
 rw [<- hT]
 by_cases hq : z6s u.scheme = true
 ·rw [hq] at cs
  have zS : (bs u.scheme).size <= 1000000000 := by rw [zb5]; exact hs1
  have zR : (bs u.rest).size <= 1000000000 := by rw [zb5]; exact hs3
  have zU : (bs u.user).size <= 1000000000 := by rw [zb5]; exact hs2
  have zF : (bs (zhz u.host)).size <= 1000000084 := by rw [zb5]; have := zgt hw; omega
  have zP : (bs (Lib.itoa u.port)).size <= 21 := by rw [zb5]; exact Lib.itoa_length_le _ h0 h1
  have ci := fun W hW => z5u u.port h0 h1 W hW
  clear h0 h1
  by_cases hu : u.user = []
  ·have hue : (bs u.user).toList.isEmpty = true := by rw [hu, Lib.toList_data]; rfl
   by_cases hp : u.port = -1
   ·have hpe : (u.port != -1) = false := by rw [hp]; rfl
    have HT : Hid (T = bs u.scheme ++ ⟨#[58]⟩ ++ ⟨#[47, 47]⟩ ++ bs (zhz u.host) ++ bs u.rest) := by
     refine jL (hT.trans ?_)
     unfold z5w z5v z7a
     rw [if_pos hq, if_pos hu, if_pos hp]
     apply zb2
     simp only [zb0, zb6, z5z, z50]
     simp
    clear hT hu hp
    generalize bs u.scheme = S at *
    generalize bs u.rest = R at *
    generalize bs u.user = U at *
    generalize bs u.host.name = N at *
    generalize bs (zhz u.host) = F at *
    generalize u.port = p at *
    generalize bs (Lib.itoa p) = P at *
    clear hq hCe hHe hs1 hs2 hs3 hn hw
    go_enter Tryz.func34, Tryz.ntmps34
    go_wp2_with (first
     | (refine zax _ rfl 1 rfl _ _ rfl _ C (by exact rfl) (by exact rfl) ?_; intro W1 g1 hg1 hl1 hR1 hG1; have hbw := zav (Below.refl w.heap.size w) hG1 jH
        obtain ⟨e0, e1, e3, e13, e14⟩ := hC.cell hR1)
     | (go_at_call 14; refine (cs _).mono ?_; rintro e w5 ⟨rfl, rfl⟩)
     | refine z9c rfl _ rfl g1 (by exact rfl) C hR1 H hC.hh hH ?_
     | (go_at_call 51; refine (cF _ (zw7 hP hbw)).mono ?_; rintro e w6 ⟨rfl, hb6⟩
        replace hR1 : z89 w6 g1 C := Row.below hR1 hb6 (Row.lt hR1)
        replace hbw := hbw.trans (hb6.mono hbw.size)
        clear hb6 e0 e1 e3 e13 e14
        obtain ⟨e0, e1, e3, e13, e14⟩ := hC.cell hR1)
     | (go_at_call 52; refine (ci _ (zw7 hP hbw).1).mono ?_; rintro e w6 ⟨rfl, hb6⟩
        replace hR1 : z89 w6 g1 C := Row.below hR1 hb6 (Row.lt hR1)
        replace hbw := hbw.trans (hb6.mono hbw.size)
        clear hb6 e0 e1 e3 e13 e14
        obtain ⟨e0, e1, e3, e13, e14⟩ := hC.cell hR1))
    go_ret
    exact ⟨by rw [HT.out]; rfl, hbw⟩
   ·have hpe : (u.port != -1) = true := by rw [bne, beq_eq_false_iff_ne.2 hp]; rfl
    have HT : Hid (T = bs u.scheme ++ ⟨#[58]⟩ ++ ⟨#[47, 47]⟩ ++ bs (zhz u.host) ++ (⟨#[58]⟩ ++ bs (Lib.itoa u.port)) ++ bs u.rest) := by
     refine jL (hT.trans ?_)
     unfold z5w z5v z7a
     rw [if_pos hq, if_pos hu, if_neg hp]
     apply zb2
     simp only [zb0, zb6, z5z, z50]
     simp
    clear hT hu hp
    generalize bs u.scheme = S at *
    generalize bs u.rest = R at *
    generalize bs u.user = U at *
    generalize bs u.host.name = N at *
    generalize bs (zhz u.host) = F at *
    generalize u.port = p at *
    generalize bs (Lib.itoa p) = P at *
    clear hq hCe hHe hs1 hs2 hs3 hn hw
    go_enter Tryz.func34, Tryz.ntmps34
    go_wp2_with (first
     | (refine zax _ rfl 1 rfl _ _ rfl _ C (by exact rfl) (by exact rfl) ?_; intro W1 g1 hg1 hl1 hR1 hG1; have hbw := zav (Below.refl w.heap.size w) hG1 jH
        obtain ⟨e0, e1, e3, e13, e14⟩ := hC.cell hR1)
     | (go_at_call 14; refine (cs _).mono ?_; rintro e w5 ⟨rfl, rfl⟩)
     | refine z9c rfl _ rfl g1 (by exact rfl) C hR1 H hC.hh hH ?_
     | (go_at_call 51; refine (cF _ (zw7 hP hbw)).mono ?_; rintro e w6 ⟨rfl, hb6⟩
        replace hR1 : z89 w6 g1 C := Row.below hR1 hb6 (Row.lt hR1)
        replace hbw := hbw.trans (hb6.mono hbw.size)
        clear hb6 e0 e1 e3 e13 e14
        obtain ⟨e0, e1, e3, e13, e14⟩ := hC.cell hR1)
     | (go_at_call 52; refine (ci _ (zw7 hP hbw).1).mono ?_; rintro e w6 ⟨rfl, hb6⟩
        replace hR1 : z89 w6 g1 C := Row.below hR1 hb6 (Row.lt hR1)
        replace hbw := hbw.trans (hb6.mono hbw.size)
        clear hb6 e0 e1 e3 e13 e14
        obtain ⟨e0, e1, e3, e13, e14⟩ := hC.cell hR1))
    go_ret
    exact ⟨by rw [HT.out]; rfl, hbw⟩
  ·have hue : (bs u.user).toList.isEmpty = false := by
    rw [Lib.toList_data]
    show u.user.isEmpty = false
    cases h : u.user with
    | nil => exact absurd h hu
    | cons _ _ => rfl
   by_cases hp : u.port = -1
   ·have hpe : (u.port != -1) = false := by rw [hp]; rfl
    have HT : Hid (T = bs u.scheme ++ ⟨#[58]⟩ ++ ⟨#[47, 47]⟩ ++ (bs u.user ++ ⟨#[64]⟩) ++ bs (zhz u.host) ++ bs u.rest) := by
     refine jL (hT.trans ?_)
     unfold z5w z5v z7a
     rw [if_pos hq, if_neg hu, if_pos hp]
     apply zb2
     simp only [zb0, zb6, z5y, z5z, z50]
     simp
    clear hT hu hp
    generalize bs u.scheme = S at *
    generalize bs u.rest = R at *
    generalize bs u.user = U at *
    generalize bs u.host.name = N at *
    generalize bs (zhz u.host) = F at *
    generalize u.port = p at *
    generalize bs (Lib.itoa p) = P at *
    clear hq hCe hHe hs1 hs2 hs3 hn hw
    go_enter Tryz.func34, Tryz.ntmps34
    go_wp2_with (first
     | (refine zax _ rfl 1 rfl _ _ rfl _ C (by exact rfl) (by exact rfl) ?_; intro W1 g1 hg1 hl1 hR1 hG1; have hbw := zav (Below.refl w.heap.size w) hG1 jH
        obtain ⟨e0, e1, e3, e13, e14⟩ := hC.cell hR1)
     | (go_at_call 14; refine (cs _).mono ?_; rintro e w5 ⟨rfl, rfl⟩)
     | refine z9c rfl _ rfl g1 (by exact rfl) C hR1 H hC.hh hH ?_
     | (go_at_call 51; refine (cF _ (zw7 hP hbw)).mono ?_; rintro e w6 ⟨rfl, hb6⟩
        replace hR1 : z89 w6 g1 C := Row.below hR1 hb6 (Row.lt hR1)
        replace hbw := hbw.trans (hb6.mono hbw.size)
        clear hb6 e0 e1 e3 e13 e14
        obtain ⟨e0, e1, e3, e13, e14⟩ := hC.cell hR1)
     | (go_at_call 52; refine (ci _ (zw7 hP hbw).1).mono ?_; rintro e w6 ⟨rfl, hb6⟩
        replace hR1 : z89 w6 g1 C := Row.below hR1 hb6 (Row.lt hR1)
        replace hbw := hbw.trans (hb6.mono hbw.size)
        clear hb6 e0 e1 e3 e13 e14
        obtain ⟨e0, e1, e3, e13, e14⟩ := hC.cell hR1))
    go_ret
    exact ⟨by rw [HT.out]; rfl, hbw⟩
   ·have hpe : (u.port != -1) = true := by rw [bne, beq_eq_false_iff_ne.2 hp]; rfl
    have HT : Hid (T = bs u.scheme ++ ⟨#[58]⟩ ++ ⟨#[47, 47]⟩ ++ (bs u.user ++ ⟨#[64]⟩) ++ bs (zhz u.host) ++ (⟨#[58]⟩ ++ bs (Lib.itoa u.port)) ++ bs u.rest) := by
     refine jL (hT.trans ?_)
     unfold z5w z5v z7a
     rw [if_pos hq, if_neg hu, if_neg hp]
     apply zb2
     simp only [zb0, zb6, z5y, z5z, z50]
     simp
    clear hT hu hp
    generalize bs u.scheme = S at *
    generalize bs u.rest = R at *
    generalize bs u.user = U at *
    generalize bs u.host.name = N at *
    generalize bs (zhz u.host) = F at *
    generalize u.port = p at *
    generalize bs (Lib.itoa p) = P at *
    clear hq hCe hHe hs1 hs2 hs3 hn hw
    go_enter Tryz.func34, Tryz.ntmps34
    go_wp2_with (first
     | (refine zax _ rfl 1 rfl _ _ rfl _ C (by exact rfl) (by exact rfl) ?_; intro W1 g1 hg1 hl1 hR1 hG1; have hbw := zav (Below.refl w.heap.size w) hG1 jH
        obtain ⟨e0, e1, e3, e13, e14⟩ := hC.cell hR1)
     | (go_at_call 14; refine (cs _).mono ?_; rintro e w5 ⟨rfl, rfl⟩)
     | refine z9c rfl _ rfl g1 (by exact rfl) C hR1 H hC.hh hH ?_
     | (go_at_call 51; refine (cF _ (zw7 hP hbw)).mono ?_; rintro e w6 ⟨rfl, hb6⟩
        replace hR1 : z89 w6 g1 C := Row.below hR1 hb6 (Row.lt hR1)
        replace hbw := hbw.trans (hb6.mono hbw.size)
        clear hb6 e0 e1 e3 e13 e14
        obtain ⟨e0, e1, e3, e13, e14⟩ := hC.cell hR1)
     | (go_at_call 52; refine (ci _ (zw7 hP hbw).1).mono ?_; rintro e w6 ⟨rfl, hb6⟩
        replace hR1 : z89 w6 g1 C := Row.below hR1 hb6 (Row.lt hR1)
        replace hbw := hbw.trans (hb6.mono hbw.size)
        clear hb6 e0 e1 e3 e13 e14
        obtain ⟨e0, e1, e3, e13, e14⟩ := hC.cell hR1))
    go_ret
    exact ⟨by rw [HT.out]; rfl, hbw⟩
 ·have hq' : z6s u.scheme = false := by simpa using hq
  rw [hq'] at cs
  have HT : Hid (T = bs u.scheme ++ ⟨#[58]⟩ ++ bs u.rest) := by
   refine jL (hT.trans ?_)
   unfold z5w
   rw [if_neg hq]
   apply zb2
   rw [zb0, zb6, zb6, zb0, zb0, show ls ⟨#[58]⟩ = [58] from rfl]
   simp
  have zS : (bs u.scheme).size <= 1000000000 := by rw [zb5]; exact hs1
  have zR : (bs u.rest).size <= 1000000000 := by rw [zb5]; exact hs3
  generalize bs u.scheme = S at *
  generalize bs u.rest = R at *
  generalize bs u.user = U at *
  generalize bs u.host.name = N at *
  clear hT hq hq' hCe hHe cF hs1 hs2 hs3 hn hw
  go_enter Tryz.func34, Tryz.ntmps34
  go_wp2_with (first
   | (refine zax _ rfl 1 rfl _ _ rfl _ C (by exact rfl) (by exact rfl) ?_; intro W1 g1 hg1 hl1 hR1 hG1; have hbw := zav (Below.refl w.heap.size w) hG1 jH
      obtain ⟨e0, e1, e3, e13, e14⟩ := hC.cell hR1)
   | (go_at_call 14; refine (cs _).mono ?_; rintro e w5 ⟨rfl, rfl⟩))
  go_ret
  exact ⟨by rw [HT.out]; rfl, hbw⟩
end

section
open Go.RowKit Go.Shelf
set_option maxHeartbeats 16000000
def Uw (w : World) : Prop := Hw w /\ z5m w
theorem z52 {w w' : World} (h : Uw w) (hb : Below w.heap.size w w') : Uw w' := ⟨zfi h.1 hb, z5n h.2 hb⟩
def z53 (w : World) (q : Nat × Uv) (e : Ending) (w' : World) : Prop := e = .returned (.tuple #[.agg q.2.cells, .int .i64 (q.1 : Nat)]) /\ Below w.heap.size w w'
theorem z54 (s : ByteArray) (w : World) : Calls Tryz.prog 80 #[.string s, .string ⟨#[47, 47]⟩] w fun e w' =>
 e = .returned (.tuple #[.string (if (ls s).take 2 = [47, 47] then bs ((ls s).drop 2) else s), .bool (decide ((ls s).take 2 = [47, 47]))]) /\ w' = w := by
 have h := Any.strings_CutPrefix Tryz.lays103 s ⟨#[47, 47]⟩ w
 have e : Lib.hasPrefix s.data.toList (⟨#[47, 47]⟩ : ByteArray).data.toList = decide ((ls s).take 2 = [47, 47]) := by
  show ([47, 47] : List UInt8).isPrefixOf (ls s) = _
  rw [Bool.eq_iff_iff, List.isPrefixOf_iff_prefix, decide_eq_true_iff, List.prefix_iff_eq_take]
  exact eq_comm
 unfold Lib.trimPrefix at h
 rw [e] at h
 refine h.mono ?_
 rintro r w' ⟨rfl, rfl⟩
 refine ⟨?_, rfl⟩
 by_cases h : (ls s).take 2 = [47, 47]
 ·rw [jT h, if_pos rfl, if_pos h]
  rfl
 ·rw [jF h, if_neg (by simp), if_neg h]
theorem z55 (p : UInt8 -> Bool) (l : List UInt8) : (zcx p l).length <= l.length /\ (zcy p l).length <= l.length := by
 have := congrArg List.length (zcz p l)
 rw [List.length_append] at this
 omega
theorem z56 {a x y : List UInt8} (h : z63 a = some (x, y)) : x.length <= a.length /\ y.length <= a.length := by
 unfold z63 at h
 split at h
 ·unfold z62 at h
  have e := congrArg List.length (zcz (isB 93) a)
  rw [List.length_append] at e
  split at h
  ·cases h
  ·rename_i b hb
   injection h with h
   injection h with h1 h2
   rw [hb] at e
   rw [<- h1, <- h2]
   simp at e ⊢
   omega
  ·rename_i b c d hb
   split at h
   ·injection h with h
    injection h with h1 h2
    rw [hb] at e
    rw [<- h1, <- h2]
    simp at e ⊢
    omega
   ·cases h
 ·injection h with h
  injection h with h1 h2
  have := z55 (isB 58) a
  rw [<- h1, <- h2, List.length_drop]
  omega
theorem z57 (l : List UInt8) : (z60 l).length <= l.length /\ (z6z l).length <= l.length := by
 have := z55 (isB 64) l.reverse
 rw [List.length_reverse] at this
 unfold z60 z6z
 simp only [List.length_reverse, List.length_drop]
 omega
set_option maxRecDepth 20000 in
theorem z58 (hPar : zfj 84) (S T : ByteArray) (w : World) (zS : S.size <= 1000000000) (zT : T.size <= 999999999) (hw : Uw w) :
 Calls Tryz.prog 58 #[.string S, .string T] w (z53 w (z67 (ls S) (ls T))) := by
 have c1 := fun W => z54 T W
 by_cases h1 : (ls T).take 2 = [47, 47]
 ·simp only [if_pos h1, jT h1] at c1
  have hsp : z67 (ls S) (ls T) = z66 (ls S) (zcx z6y ((ls T).drop 2)) (zcy z6y ((ls T).drop 2)) := by unfold z67; rw [if_pos h1]
  have hlD : ((ls T).drop 2).length <= 999999999 := by rw [List.length_drop, zb4]; omega
  generalize (ls T).drop 2 = D at *
  have c2 := fun W => z5a (bs D) W (by rw [zb5]; omega)
  rw [zb0] at c2
  have hlA := z55 z6y D
  generalize zcx z6y D = A at *
  generalize zcy z6y D = R at *
  have c3 := fun W => z5b (bs A) W (by rw [zb5]; omega)
  rw [zb0] at c3
  have hlU := z57 A
  have hau : z66 (ls S) A R = match z63 (z60 A) with
   | none => (4, uv0)
   | some q => z65 (ls S) (z6z A) R q.1 q.2 := rfl
  generalize z60 A = E at *
  generalize z6z A = U at *
  have c4 := fun W => z5g (bs E) W (by rw [zb5]; omega)
  unfold z5f at c4
  rw [zb0] at c4
  have zU : U.length <= 1000000000 := by omega
  have zR : R.length <= 999999999 := by omega
  have zE : E.length <= 1000000000 := by omega
  have HSP := jL (hsp.trans hau)
  have HW := jL hw
  clear hsp hau hlU hlA hlD h1 zT hw
  go_enter Tryz.func58, Tryz.ntmps58
  go_wp2_with (first
   | (refine zay _ rfl 4 rfl _ rfl uz z5s ?_
      intro W1 g4 hg4 hl4 hr4 hG
      have hbw := zav (Below.refl w.heap.size w) hG jH)
   | (go_at_call 80; refine (c1 _).mono ?_; rintro e w5 ⟨rfl, rfl⟩)
   | (go_at_call 81; refine (c2 _).mono ?_; rintro e w5 ⟨rfl, hb5⟩
      replace hr4 : z89 w5 g4 uz := Row.below hr4 hb5 (Row.lt hr4)
      replace hbw := hbw.trans (hb5.mono hbw.size)
      clear hb5)
   | (go_at_call 82; refine (c3 _).mono ?_; rintro e w6 ⟨rfl, hb6⟩
      replace hr4 : z89 w6 g4 uz := Row.below hr4 hb6 (Row.lt hr4)
      replace hbw := hbw.trans (hb6.mono hbw.size)
      clear hb6))
  refine (c4 _).mono ?_
  rintro e w7 ⟨⟨x, y, ok, rfl, hcp⟩, hb7⟩
  replace hr4 : z89 w7 g4 uz := Row.below hr4 hb7 (Row.lt hr4)
  replace hbw := hbw.trans (hb7.mono hbw.size)
  clear hb7
  cases ok with
  | false =>
    have HP : Hid (z67 (ls S) (ls T) = (4, uv0)) := jL (by rw [HSP.out, hcp]; rfl)
    clear hcp
    go_wp2_with (refine z9d rfl rfl _ _ rfl g4 (by exact rfl) uz (by exact rfl) uz hr4 rfl rfl (z83 _ _ _ _ _ _ _ _) ?_
                 intro w8 hr8 hG8
                 have hb8 := zau hbw hG8 jH hg4)
    exact z9e 4 5 rfl g4 rfl uz hr8 rfl _ rfl rfl ⟨by rw [HP.out]; rfl, hb8⟩
  | true =>
    rw [if_pos rfl] at hcp
    have hlx := z56 hcp
    rw [zb4, zb4] at hlx
    have hw7 := z52 HW.out (hbw.mono jH)
    have c5 := hPar x w7 (by omega) hw7.1
    unfold zeh at c5
    have HP : Hid (z67 (ls S) (ls T) = z65 (ls S) U R (ls x) (ls y)) := jL (by rw [HSP.out, hcp])
    clear hcp
    obtain ⟨q, hq⟩ : ∃ q, q = zhw (ls x) := ⟨_, rfl⟩
    rw [<- hq] at c5
    have HQ := jL hq
    clear hq
    obtain ⟨n1, h⟩ := q
    simp only at c5
    by_cases hn : n1 = 0
    ·subst hn
     have hH1 : h.cells.all (·.oneCell') = true := zgv _ _ _ _
     obtain ⟨k, N, v, x0, x1, x2, x3, x4, x5, x6, x7, R2, zN, hR2, eH, hUC, hPn, hPs⟩ : ∃ (k : Int) (N : ByteArray) (v x0 x1 x2 x3 x4 x5 x6 x7 : Int) (R2 : ByteArray), N.size <= 1000000000 /\ R2 = bs (z64 R) /\ h.cells = #[.int .i64 k, .string N, .int .u32 v, .int .u16 x0, .int .u16 x1, .int .u16 x2, .int .u16 x3, .int .u16 x4, .int .u16 x5, .int .u16 x6, .int .u16 x7] /\
      (∀ p, UC #[.string S, .string (bs U), .int .i64 k, .string N, .int .u32 v, .int .u16 x0, .int .u16 x1, .int .u16 x2, .int .u16 x3, .int .u16 x4, .int .u16 x5, .int .u16 x6, .int .u16 x7, .int .i64 p, .string R2] S (bs U) N h.cells p R2) /\ (z61 (ls y) (z6r (ls S)) = none -> z67 (ls S) (ls T) = (16, uv0)) /\
      (∀ p, z61 (ls y) (z6r (ls S)) = some p -> (z67 (ls S) (ls T)).1 = 0 /\ (z67 (ls S) (ls T)).2.cells = #[.string S, .string (bs U), .int .i64 k, .string N, .int .u32 v, .int .u16 x0, .int .u16 x1, .int .u16 x2, .int .u16 x3, .int .u16 x4, .int .u16 x5, .int .u16 x6, .int .u16 x7, .int .i64 p, .string R2]) := by
      refine ⟨h.kind, bs h.name, (h.v4 : Nat), ((h.v6.getD 0 0 : Nat) : Int), ((h.v6.getD 1 0 : Nat) : Int), ((h.v6.getD 2 0 : Nat) : Int), ((h.v6.getD 3 0 : Nat) : Int), ((h.v6.getD 4 0 : Nat) : Int), ((h.v6.getD 5 0 : Nat) : Int), ((h.v6.getD 6 0 : Nat) : Int), ((h.v6.getD 7 0 : Nat) : Int), bs (z64 R), ?_, rfl, rfl, ?_, ?_, ?_⟩
      ·have := zgu (ls x)
       rw [<- HQ.out] at this
       rw [zb5]
       show h.name.length <= _
       simp only at this
       omega
      ·intro p
       have := z9g ⟨ls S, U, h, p, z64 R⟩
       simp only [zb1] at this
       exact this
      ·intro hp
       rw [HP.out]
       unfold z65
       rw [<- HQ.out, if_pos rfl, hp]
      ·intro p hp
       rw [HP.out]
       unfold z65
       rw [<- HQ.out, if_pos rfl, hp]
       exact ⟨rfl, rfl⟩
     rw [eH] at c5 hH1 hUC
     have HPN := jL hPn
     have HPS := jL hPs
     have HUC := jL hUC
     have HR2 := jL hR2
     have c6 := fun W => z4e S W
     obtain ⟨std, hstd⟩ : ∃ z, z = z6r (ls S) := ⟨_, rfl⟩
     rw [<- hstd] at c6 HPN HPS
     have c8 := fun W => z5c (bs R) 47 W
     rw [zb0] at c8
     have zU2 : (bs U).size <= 1000000000 := by rw [zb5]; exact zU
     have zR1 : (bs R).size <= 1000000000 := by rw [zb5]; omega
     clear hPn hPs hUC hR2 hstd eH
     go_wp2_with fail
     refine c5.mono ?_
     rintro e w8 ⟨rfl, hb8⟩
     have hlt4 : g4 < w8.heap.size := Nat.lt_of_lt_of_le (Row.lt hr4) hb8.size
     replace hr4 : z89 w8 g4 uz := Row.below hr4 hb8 (Row.lt hr4)
     replace hbw := hbw.trans (hb8.mono hbw.size)
     have hr14 : zgy (w8.alloc (.cells #[.int .i64 k, .string N, .int .u32 v, .int .u16 x0, .int .u16 x1, .int .u16 x2, .int .u16 x3, .int .u16 x4, .int .u16 x5, .int .u16 x6, .int .u16 x7] 26)) w8.heap.size #[.int .i64 k, .string N, .int .u32 v, .int .u16 x0, .int .u16 x1, .int .u16 x2, .int .u16 x3, .int .u16 x4, .int .u16 x5, .int .u16 x6, .int .u16 x7] := zat w8 _ _
     replace hr4 : z89 (w8.alloc (.cells #[.int .i64 k, .string N, .int .u32 v, .int .u16 x0, .int .u16 x1, .int .u16 x2, .int .u16 x3, .int .u16 x4, .int .u16 x5, .int .u16 x6, .int .u16 x7] 26)) g4 uz := Row.grown0 hr4 (World.grownBy_alloc w8 _ _)
     have hne4 : g4 ≠ w8.heap.size := Nat.ne_of_lt hlt4
     have h14 := hbw.size
     replace hbw := hbw.alloc h14 (.cells #[.int .i64 k, .string N, .int .u32 v, .int .u16 x0, .int .u16 x1, .int .u16 x2, .int .u16 x3, .int .u16 x4, .int .u16 x5, .int .u16 x6, .int .u16 x7] 26)
     clear hb8
     go_wp2_with (go_at_call 38; refine (c6 _).mono ?_; rintro e w5 ⟨rfl, rfl⟩)
     have hW9 := z52 HW.out hbw
     refine (z5r y std (by omega) _ hW9.1.2.2 hW9.2).mono ?_
     rintro e w10 ⟨⟨p, ok, rfl, hpp⟩, hb10⟩
     replace hr4 : z89 w10 g4 uz := Row.below hr4 hb10 (Row.lt hr4)
     replace hr14 : zgy w10 w8.heap.size #[.int .i64 k, .string N, .int .u32 v, .int .u16 x0, .int .u16 x1, .int .u16 x2, .int .u16 x3, .int .u16 x4, .int .u16 x5, .int .u16 x6, .int .u16 x7] := Row.below hr14 hb10 (Row.lt hr14)
     replace hbw := hbw.trans (hb10.mono hbw.size)
     clear hb10 hW9
     cases ok with
     | false =>
       have HP3 := jL (HPN.out hpp)
       clear hpp
       go_wp2_with (refine z9d rfl rfl _ _ rfl g4 (by exact rfl) uz (by exact rfl) uz hr4 rfl rfl (z83 _ _ _ _ _ _ _ _) ?_
                    intro w11 hr11 hG11
                    have hb11 := zau hbw hG11 jH hg4)
       exact z9e 4 5 rfl g4 rfl uz hr11 rfl _ rfl rfl ⟨by rw [HP3.out]; rfl, hb11⟩
     | true =>
       have HP3 := jL (HPS.out p hpp)
       have hUCp := HUC.out p
       clear hpp
       by_cases hd : R.head? = some 47
       ·have eR : bs R = R2 := by rw [HR2.out]; unfold z64; rw [if_pos hd]
        rw [jT hd, eR] at c8
        rw [eR] at zR1 ⊢
        clear hd
        go_wp2_with (first
         | (go_at_call 86; refine (c8 _).mono ?_; rintro e w5 ⟨rfl, rfl⟩)
         | (refine zg0 rfl _ rfl w8.heap.size (by exact rfl) #[.int .i64 k, .string N, .int .u32 v, .int .u16 x0, .int .u16 x1, .int .u16 x2, .int .u16 x3, .int .u16 x4, .int .u16 x5, .int .u16 x6, .int .u16 x7] hr14 rfl ?_)
         | (go_at_call 41; refine (z5t hUCp zS zU2 zN zR1 _).mono ?_; rintro e w12 ⟨rfl, hb12⟩
            replace hr4 : z89 w12 g4 uz := Row.below hr4 hb12 (Row.lt hr4)
            replace hbw := hbw.trans (hb12.mono hbw.size))
         | (refine z9d rfl rfl _ _ rfl g4 (by exact rfl) #[.string S, .string (bs U), .int .i64 k, .string N, .int .u32 v, .int .u16 x0, .int .u16 x1, .int .u16 x2, .int .u16 x3, .int .u16 x4, .int .u16 x5, .int .u16 x6, .int .u16 x7, .int .i64 p, .string R2] (by exact rfl) uz hr4 rfl rfl hUCp.one ?_
            intro w13 hr13 hG13
            have hb13 := zau hbw hG13 jH hg4))
        exact z9e 4 5 rfl g4 rfl #[.string S, .string (bs U), .int .i64 k, .string N, .int .u32 v, .int .u16 x0, .int .u16 x1, .int .u16 x2, .int .u16 x3, .int .u16 x4, .int .u16 x5, .int .u16 x6, .int .u16 x7, .int .i64 p, .string R2] hr13 rfl _ rfl rfl ⟨by rw [HP3.out.1, HP3.out.2]; rfl, hb13⟩
       ·have eR : (⟨#[47]⟩ : ByteArray) ++ bs R = R2 := by
         rw [HR2.out]
         unfold z64
         rw [if_neg hd]
         apply zb2
         rw [zb6, zb0, zb0]
         rfl
        rw [jF hd] at c8
        have zR2 : R2.size <= 1000000000 := by
         rw [<- eR, ByteArray.size_append]
         have : (⟨#[47]⟩ : ByteArray).size = 1 := rfl
         rw [zb5] at zR1 ⊢
         omega
        have HE := jL eR
        clear hd eR
        go_wp2_with (first
         | (go_at_call 86; refine (c8 _).mono ?_; rintro e w5 ⟨rfl, rfl⟩)
         | (refine zg0 rfl _ rfl w8.heap.size (by exact rfl) #[.int .i64 k, .string N, .int .u32 v, .int .u16 x0, .int .u16 x1, .int .u16 x2, .int .u16 x3, .int .u16 x4, .int .u16 x5, .int .u16 x6, .int .u16 x7] hr14 rfl ?_)
         | (go_at_call 41; rw [HE.out]; refine (z5t hUCp zS zU2 zN zR2 _).mono ?_; rintro e w12 ⟨rfl, hb12⟩
            replace hr4 : z89 w12 g4 uz := Row.below hr4 hb12 (Row.lt hr4)
            replace hbw := hbw.trans (hb12.mono hbw.size))
         | (refine z9d rfl rfl _ _ rfl g4 (by exact rfl) #[.string S, .string (bs U), .int .i64 k, .string N, .int .u32 v, .int .u16 x0, .int .u16 x1, .int .u16 x2, .int .u16 x3, .int .u16 x4, .int .u16 x5, .int .u16 x6, .int .u16 x7, .int .i64 p, .string R2] (by exact rfl) uz hr4 rfl rfl hUCp.one ?_
            intro w13 hr13 hG13
            have hb13 := zau hbw hG13 jH hg4))
        exact z9e 4 5 rfl g4 rfl #[.string S, .string (bs U), .int .i64 k, .string N, .int .u32 v, .int .u16 x0, .int .u16 x1, .int .u16 x2, .int .u16 x3, .int .u16 x4, .int .u16 x5, .int .u16 x6, .int .u16 x7, .int .i64 p, .string R2] hr13 rfl _ rfl rfl ⟨by rw [HP3.out.1, HP3.out.2]; rfl, hb13⟩
    ·have hne : ((n1 : Int) != 0) = true := by rw [bne, beq_eq_false_iff_ne.2 (by omega)]; rfl
     have HP2 : Hid (z67 (ls S) (ls T) = (n1, uv0)) := jL (by rw [HP.out]; unfold z65; rw [<- HQ.out, if_neg hn])
     have hH : h.cells.size = 11 := rfl
     have hH1 : h.cells.all (·.oneCell') = true := zgv _ _ _ _
     generalize h.cells = H at *
     go_wp2_with fail
     refine c5.mono ?_
     rintro e w8 ⟨rfl, hb8⟩
     have hlt4 : g4 < w8.heap.size := Nat.lt_of_lt_of_le (Row.lt hr4) hb8.size
     replace hr4 : z89 w8 g4 uz := Row.below hr4 hb8 (Row.lt hr4)
     replace hbw := hbw.trans (hb8.mono hbw.size)
     have hr14 : zgy (w8.alloc (.cells hz 26)) w8.heap.size hz := zat w8 _ _
     replace hr4 : z89 (w8.alloc (.cells hz 26)) g4 uz := Row.grown0 hr4 (World.grownBy_alloc w8 _ _)
     have hne4 : g4 ≠ w8.heap.size := Nat.ne_of_lt hlt4
     have h14 := hbw.size
     replace hbw := hbw.alloc h14 (.cells hz 26)
     clear hb8
     go_wp2_with (first
      | (refine zee rfl rfl _ _ rfl w8.heap.size (by exact rfl) H (by exact rfl) hz hr14 rfl hH hH1 ?_
         intro w9 hr9 hG9
         replace hr4 : z89 w9 g4 uz := Row.grown hr4 hG9 hne4
         replace hbw := zau hbw hG9 jH h14)
      | (refine z9d rfl rfl _ _ rfl g4 (by exact rfl) uz (by exact rfl) uz hr4 rfl rfl (z83 _ _ _ _ _ _ _ _) ?_
         intro w8 hr8 hG8
         have hb8 := zau hbw hG8 jH hg4))
     exact z9e 4 5 rfl g4 rfl uz hr8 rfl _ rfl rfl ⟨by rw [HP2.out]; rfl, hb8⟩
 ·have HP : Hid (z67 (ls S) (ls T) = (4, uv0)) := jL (by unfold z67; rw [if_neg h1])
  simp only [if_neg h1, jF h1] at c1
  clear h1 hw
  go_enter Tryz.func58, Tryz.ntmps58
  go_wp2_with (first
   | (refine zay _ rfl 4 rfl _ rfl uz z5s ?_
      intro W1 g4 hg4 hl4 hr4 hG
      have hbw := zav (Below.refl w.heap.size w) hG jH)
   | (go_at_call 80; refine (c1 _).mono ?_; rintro e w5 ⟨rfl, rfl⟩)
   | (refine z9d rfl rfl _ _ rfl g4 (by exact rfl) uz (by exact rfl) uz hr4 rfl rfl (z83 _ _ _ _ _ _ _ _) ?_
      intro w7 hr7 hG7
      have hb7 := zau hbw hG7 jH hg4))
  exact z9e 4 5 rfl g4 rfl uz hr7 rfl _ rfl rfl ⟨by rw [HP.out]; rfl, hb7⟩
end

section
open Go.RowKit
set_option maxHeartbeats 16000000
theorem za5 (b : Int) (w : World) : Calls Tryz.prog 104 #[.int .u8 b] w fun e w' => e = .returned (.bool (zbb b)) /\ w = w' := by
 go_enter Tryz.func104, Tryz.ntmps104
 go_wp2
 all_goals
  go_ret
  exact ⟨zbx (by first | (simp [zbb, *]; done) | (simp [zbb, *]; omega)), rfl⟩
theorem za6 (b : Int) (h0 : 0 <= b) (h1 : b <= 255) (w : World) : Calls Tryz.prog 79 #[.int .u8 b] w fun e w' => e = .returned (.int .u8 (zbd b)) /\ w = w' := by
 by_cases hu : zbb b = true
 ·have hb : b <= 90 := by simp [zbb] at hu; omega
  go_enter Tryz.func79, Tryz.ntmps79
  go_wp2_with (go_at_call 104; refine (za5 _ _).mono ?_; rintro e w' ⟨rfl, rfl⟩)
  go_ret
  exact ⟨zby (by simp [zbd, hu]), rfl⟩
 ·have hu' : zbb b = false := by simpa using hu
  clear hu
  go_enter Tryz.func79, Tryz.ntmps79
  go_wp2_with (go_at_call 104; refine (za5 _ _).mono ?_; rintro e w' ⟨rfl, rfl⟩)
  go_ret
  exact ⟨zby (by simp [zbd, hu']), rfl⟩
theorem za7 (c : UInt8) (w : World) : Calls Tryz.prog 79 #[.int .u8 (c.toNat : Int)] w fun e w' => e = .returned (.int .u8 ((zbf c).toNat : Int)) /\ w = w' := by
 have := zce c
 rw [zbh]
 exact za6 _ (by omega) (by omega) w
theorem za8 (w : World) (n : Nat) (hn : n <= 281474976710656) : (Instr.makeSlice 72 (.int .i64 (n : Int)) (.int .i64 (n : Int))).run Tryz.prog w =
 .ok (.slice (some ⟨w.heap.size, 0, none⟩) n n) (w.alloc (.cells (zcg n) 5)) := by
 obtain ⟨i, hi, hz0, hz1, hz2⟩ := info_parts z34
 have h := run_make (P := Tryz.prog) w 72 5 i (.int .u8 0) z31 hi hz0 .i64 .i64 n n (by omega) (by omega) (by rw [hz2]; omega) (by omega)
 rw [hz1] at h
 simpa [zch, Value.cells] using h
theorem za9 (w : World) (b off n c : Nat) (l : List UInt8) (hl : l.length = n) (hc : ∀ j, j < n -> w.cell? ⟨b, off + j, none⟩ = some (.int .u8 ((l.map fun c => (c.toNat : Int)).getD j 0))) :
 (convert 72 9 (.slice (some ⟨b, off, none⟩) n c)).run Tryz.prog w = .ok (.string (bs l)) w := by
 rw [run_convert_bytes_arg w 72 5 z31 z32 b off n c (l.map fun c => (c.toNat : Int)) (by simpa using hl) hc 9 z33, zcn]
theorem zba (s : ByteArray) (w : World) (hs : s.size <= 1000000000) :
 Calls Tryz.prog 57 #[.string s] w fun e w' => e = .returned (.string (zbl s)) /\ Below w.heap.size w w' := by
 have hmk := za8 w s.size (by omega)
 have hconv := za9 (w.alloc (.cells (zci (zbk (ls s)) s.size s.size) 5)) w.heap.size 0 s.size s.size (zbk (ls s)) (by rw [zbm, zb4]) (by
  intro j hj
  rw [World.cell?_alloc_at _ _ _ _ rfl, Nat.zero_add]
  exact zcm _ _ _ (by rw [zbm, zb4]) hj)
 go_enter Tryz.func57, Tryz.ntmps57
 go_wp2
 go_loopw [10] (fun i wr => ∃ k : Nat, k <= s.size /\ i = .int .i64 k /\ wr = w.alloc (.cells (zci (zbk (ls s)) s.size k) 5)) (fun i _ => s.size - (intOf i).toNat)
 case atStart => exact ⟨0, Nat.zero_le _, rfl, by rw [zcj]⟩
 case round =>
  obtain ⟨k, hk, rfl, rfl⟩ := hrel
  by_cases hlt : k < s.size
  ·have hck := zck (zbk (ls s)) s.size k (by rw [zbm, zb4]) hlt
   have hset : Hid (((zci (zbk (ls s)) s.size k).setIfInBounds k (.int .u8 ((zbf s[k]).toNat : Int))) = zci (zbk (ls s)) s.size (k + 1)) :=
    zcl _ _ _ (by rw [zbm, zb4]) hlt _ (by simp only [zbk, List.getElem?_map, zb7 s k hlt, Option.map_some])
   go_wp2_with (go_at_call 79; refine (za7 _ _).mono ?_; rintro e w' ⟨rfl, rfl⟩)
   go_roundw
   case rel => exact ⟨k + 1, by omega, by go_num, by rw [hset.out]⟩
   case measure => simp [intOf]; omega
  ·obtain rfl : k = s.size := by omega
   go_wp2
   go_ret
   exact ⟨rfl, (Below.refl _ _).alloc jH _⟩
end

end Go.Proofs.YtekaljeicfjkjaaGreatDoor
