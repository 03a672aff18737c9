/-
The reference's Parse of package url.
The fixed examples of the statements of layer 16 (awake) hold.
Of and Format of the reference of layer 16 (written by tools/gen-OrR.py).
The opener of layer 14: a host that came in (written by tools/gen-HoA.py).
Contract of the helper Short of the statements (package hstsstorekeep).
The helper SmallURL of the statements.
The opener of a URL that came in (written by tools/gen-UrOp.py).
The opener of an origin that came in.
-/
import Derived.Test.YtekaljeicfjkjaaGreatDoorK36
import Derived.Test.YtekaljeicfjkjaaGreatDoorK26
import Derived.Test.YtekaljeicfjkjaaGreatDoorK37
import Derived.Test.YtekaljeicfjkjaaGreatDoorK07
import Derived.Test.YtekaljeicfjkjaaGreatDoorK08
import Derived.OpenShut
import Derived.ChangeSame
import Derived.Test.YtekaljeicfjkjaaGreatDoorRows
import Derived.Test.YtekaljeicfjkjaaGreatDoorK00
import Derived.BigQuiet
import Derived.Deep.QuietTactic
import Derived.WalkSmall
namespace Go.Proofs.YtekaljeicfjkjaaGreatDoor
section
open Go.RowKit Go.Shelf
set_option maxHeartbeats 16000000
set_option maxRecDepth 20000 in
theorem z7x (s : ByteArray) (w : World) :
 Calls Tryz.prog 32 #[.string s] w (z53 w (z69 (ls s))) := by
 by_cases h1 : 2048 < s.size
 ·have HP : Hid (z69 (ls s) = (3, uv0)) := jL (by unfold z69; rw [zb4, if_pos h1])
  have hd : decide ((2048 : Int) < (s.size : Int)) = true := jT (by omega)
  clear h1
  go_enter Tryz.func32, Tryz.ntmps32
  go_wp2_with (first
   | (refine zay _ rfl 2 rfl _ rfl uz z5s ?_
      intro W1 g2 hg2 hl2 hr2 hG
      have hbw := zav (Below.refl w.heap.size w) hG jH)
   | (refine z9d rfl rfl _ _ rfl g2 (by exact rfl) uz (by exact rfl) uz hr2 rfl rfl (z83 _ _ _ _ _ _ _ _) ?_
      intro w7 hr7 hG7
      have hb7 := zau hbw hG7 jH hg2))
  exact z9e 2 3 rfl g2 rfl uz hr7 rfl _ rfl rfl ⟨by rw [HP.out]; rfl, hb7⟩
 ·have HP : Hid (z69 (ls s) = z68 (ls s)) := jL (by unfold z69; rw [zb4, if_neg h1])
  have hd : decide ((2048 : Int) < (s.size : Int)) = false := jF (by omega)
  have c7 := fun W => z8z s W (by omega)
  unfold z53 at c7
  have hC := z59 (z68 (ls s)).2
  have hC1 := z6a (z68 (ls s)).2
  obtain ⟨C, hCe⟩ : ∃ C, C = (z68 (ls s)).2.cells := ⟨_, rfl⟩
  obtain ⟨n, hn⟩ : ∃ n, n = (z68 (ls s)).1 := ⟨_, rfl⟩
  rw [<- hCe] at c7 hC hC1
  rw [<- hn] at c7
  have HC := jL hCe
  have HN := jL hn
  clear h1 hCe hn
  go_enter Tryz.func32, Tryz.ntmps32
  go_wp2_with (first
   | (refine zay _ rfl 2 rfl _ rfl uz z5s ?_
      intro W1 g2 hg2 hl2 hr2 hG
      have hbw := zav (Below.refl w.heap.size w) hG jH)
   | (go_at_call 37; refine (c7 _).mono ?_; rintro e w5 ⟨rfl, hb5⟩
      replace hr2 : z89 w5 g2 uz := Row.below hr2 hb5 (Row.lt hr2)
      replace hbw := hbw.trans (hb5.mono hbw.size)
      clear hb5)
   | (refine z9d rfl rfl _ _ rfl g2 (by exact rfl) C (by exact rfl) uz hr2 rfl hC hC1 ?_
      intro w7 hr7 hG7
      have hb7 := zau hbw hG7 jH hg2))
  exact z9e 2 3 rfl g2 rfl C hr7 hC _ rfl rfl ⟨by rw [HP.out, <- HC.out, <- HN.out]; rfl, hb7⟩
end

section
open Go.RowKit Go.Shelf
set_option maxHeartbeats 16000000
def uO1 : Uv := ⟨[104, 116, 116, 112], [117], hvD [97], -1, [47, 120]⟩
def uO2 : Uv := ⟨[104, 116, 116, 112], [], ⟨2, [], 2131035655, [0, 0, 0, 0, 0, 0, 0, 0]⟩, -1, [47]⟩
def oO1 : Ov := ⟨[104, 116, 116, 112], hvD [97], 80⟩
theorem zvk : z69 [104, 116, 116, 112, 58, 47, 47, 117, 64, 97, 58, 56, 48, 47, 120] = (0, uO1) := by kernel_rfl
theorem zvl : z69 [104, 116, 116, 112, 58, 47, 47, 49, 50, 55, 46, 53, 46, 54, 46, 55, 47] = (0, uO2) := by kernel_rfl
theorem zvm : ofL uO1 = (true, oO1) := by kernel_rfl
theorem zvn : bs (zvz oO1) = ⟨#[104, 116, 116, 112, 58, 47, 47, 97]⟩ := by kernel_rfl
theorem zvo : zv6 uO2 = true := by kernel_rfl
theorem zvp : zv6 uO1 = false := by kernel_rfl
theorem zvq : zv5 uO2.host = true := by kernel_rfl
theorem zvr : uO2.host.Wf := ⟨by decide, ziv.1, ziv.2⟩
theorem zvs : USm uO1 := ⟨⟨by decide, ziv.1, ziv.2⟩, by decide, by decide, by decide, by decide, by decide, by decide⟩
theorem zvt : USm uO2 := ⟨zvr, by decide, by decide, by decide, by decide, by decide, by decide⟩
theorem zvu : OSm oO1 := ⟨⟨by decide, ziv.1, ziv.2⟩, by decide, by decide, by decide, by decide⟩
set_option maxRecDepth 20000 in
theorem zvv (hPar : zfj 84) (hF : zf9 51) (hVal : zft 43) (hCov : zd4 44) (w : World) (hw : Uw w) :
 Calls Tryz.prog 22 #[] w (Yes w) := by
 have c1 := fun W => z7x ⟨#[104, 116, 116, 112, 58, 47, 47, 117, 64, 97, 58, 56, 48, 47, 120]⟩ W
 have c2 := fun W hW => zva hPar hF uO1 zvs W hW
 have c3 := fun W => z7x ⟨#[104, 116, 116, 112, 58, 47, 47, 49, 50, 55, 46, 53, 46, 54, 46, 55, 47]⟩ W
 have c4 := fun W hW => zvi hPar hF oO1 zvu W hW
 have c5 := fun W hW => zwl hPar hF hVal hCov uO2 zvt W hW
 have c6 := fun W hW => zwl hPar hF hVal hCov uO1 zvs W hW
 have c7 := fun W => zvj hVal hCov uO2.host W zvr (by decide)
 unfold z53 at c1 c3
 unfold zu9 at c2
 simp only [show ls ⟨#[104, 116, 116, 112, 58, 47, 47, 117, 64, 97, 58, 56, 48, 47, 120]⟩ = [104, 116, 116, 112, 58, 47, 47, 117, 64, 97, 58, 56, 48, 47, 120] from rfl, zvk] at c1
 simp only [show ls ⟨#[104, 116, 116, 112, 58, 47, 47, 49, 50, 55, 46, 53, 46, 54, 46, 55, 47]⟩ = [104, 116, 116, 112, 58, 47, 47, 49, 50, 55, 46, 53, 46, 54, 46, 55, 47] from rfl, zvl] at c3
 simp only [zvm] at c2
 simp only [zvn] at c4
 simp only [zvo] at c5
 simp only [zvp] at c6
 simp only [zvq] at c7
 rw [show uO2.host.val = .agg uO2.host.cells from rfl] at c7
 have hA := z9g uO1
 have hB := z9g uO2
 have hO := zww oO1
 have hH2 : uO2.host.cells.size = 11 := rfl
 generalize uO1.cells = A at *
 generalize uO2.cells = B at *
 generalize uO2.host.cells = H at *
 generalize oO1.cells = O at *
 have HW := jL hw
 clear hw
 go_enter Tryz.func22, Tryz.ntmps22
 go_wp2_with fail
 refine (c1 _).mono ?_
 rintro e w1 ⟨rfl, hbw⟩
 go_wp2_with (first
  | (refine zay _ rfl 1 rfl _ rfl uz z5s ?_
     intro W1 g1 hg1 hl1 hr1 hG1
     have hle1 : w.heap.size <= g1 := by have := hbw.size; omega
     replace hbw := zav hbw hG1 jH)
  | (refine z9d rfl rfl _ _ rfl g1 (by exact rfl) A (by exact rfl) uz hr1 rfl hA.sz hA.one ?_
     intro w2 hs1 hG2
     replace hbw := zau hbw hG2 jH hle1)
  | (refine z9b (by rfl) _ rfl g1 (by exact rfl) A hs1 hA.sz ?_))
 refine (c2 _ (z52 HW.out hbw)).mono ?_
 rintro e w3 ⟨rfl, hb3⟩
 replace hs1 : z89 w3 g1 A := Row.below hs1 hb3 (Row.lt hs1)
 replace hbw := hbw.trans (hb3.mono hbw.size)
 clear hb3
 go_wp2_with (first
  | (refine zay _ rfl 3 rfl _ rfl oz zwn ?_
     intro W3 g3 hg3 hl3 hr3 hG3
     have hle3 : w.heap.size <= g3 := by have := hbw.size; omega
     have hne13 : g1 ≠ g3 := by have := Row.lt hs1; omega
     replace hs1 : z89 W3 g1 A := Row.grown0 hs1 hG3
     replace hbw := zav hbw hG3 jH)
  | (refine zwu rfl rfl _ _ rfl g3 (by exact rfl) O (by exact rfl) oz hr3 rfl hO.sz hO.one ?_
     intro w4 hs3 hG4
     replace hs1 : z89 w4 g1 A := Row.grown hs1 hG4 hne13
     replace hbw := zau hbw hG4 jH hle3))
 refine (c3 _).mono ?_
 rintro e w5 ⟨rfl, hb3⟩
 replace hs1 : z89 w5 g1 A := Row.below hs1 hb3 (Row.lt hs1)
 replace hs3 : zwq w5 g3 O := Row.below hs3 hb3 (Row.lt hs3)
 replace hbw := hbw.trans (hb3.mono hbw.size)
 clear hb3
 go_wp2_with (first
  | (refine zay _ rfl 5 rfl _ rfl uz z5s ?_
     intro W5 g5 hg5 hl5 hr5 hG5
     have hle5 : w.heap.size <= g5 := by have := hbw.size; omega
     have hne15 : g1 ≠ g5 := by have := Row.lt hs1; omega
     have hne35 : g3 ≠ g5 := by have := Row.lt hs3; omega
     replace hs1 : z89 W5 g1 A := Row.grown0 hs1 hG5
     replace hs3 : zwq W5 g3 O := Row.grown0 hs3 hG5
     replace hbw := zav hbw hG5 jH)
  | (refine z9d rfl rfl _ _ rfl g5 (by exact rfl) B (by exact rfl) uz hr5 rfl hB.sz hB.one ?_
     intro w6 hs5 hG6
     replace hs1 : z89 w6 g1 A := Row.grown hs1 hG6 hne15
     replace hs3 : zwq w6 g3 O := Row.grown hs3 hG6 hne35
     replace hbw := zau hbw hG6 jH hle5)
  | (refine zws (by rfl) _ rfl g3 (by exact rfl) O hs3 hO.sz ?_))
 refine (c4 _ (z52 HW.out hbw)).mono ?_
 rintro e w7 ⟨rfl, hb3⟩
 replace hs1 : z89 w7 g1 A := Row.below hs1 hb3 (Row.lt hs1)
 replace hs5 : z89 w7 g5 B := Row.below hs5 hb3 (Row.lt hs5)
 replace hbw := hbw.trans (hb3.mono hbw.size)
 clear hb3
 go_wp2_with (refine z9b (by rfl) _ rfl g5 (by exact rfl) B hs5 hB.sz ?_)
 refine (c5 _ (z52 HW.out hbw)).mono ?_
 rintro e w8 ⟨rfl, hb3⟩
 replace hs1 : z89 w8 g1 A := Row.below hs1 hb3 (Row.lt hs1)
 replace hs5 : z89 w8 g5 B := Row.below hs5 hb3 (Row.lt hs5)
 replace hbw := hbw.trans (hb3.mono hbw.size)
 clear hb3
 go_wp2_with (refine z9b (by rfl) _ rfl g1 (by exact rfl) A hs1 hA.sz ?_)
 refine (c6 _ (z52 HW.out hbw)).mono ?_
 rintro e w9 ⟨rfl, hb3⟩
 replace hs5 : z89 w9 g5 B := Row.below hs5 hb3 (Row.lt hs5)
 replace hbw := hbw.trans (hb3.mono hbw.size)
 clear hb3
 go_wp2_with (refine z9c (by rfl) _ rfl g5 (by exact rfl) B hs5 H hB.hh hH2 ?_)
 refine (c7 _).mono ?_
 rintro e wx ⟨rfl, hb3⟩
 replace hbw := hbw.trans (hb3.mono hbw.size)
 go_wp2_with fail
 go_ret
 exact ⟨rfl, hbw⟩
end

section
open Go.RowKit Go.Shelf
set_option maxHeartbeats 16000000
theorem zwh {o : Ov} (h : zvy o = true) (hp : o.port = z6r o.scheme) : bs o.scheme ++ ⟨#[58, 47, 47]⟩ ++ bs (zhz o.host) = bs (zvz o) := by
 apply zb2
 unfold zvz zvx
 rw [if_pos h, if_pos hp, zb6, zb6, zb0, zb0, zb0, List.append_nil]
 show o.scheme ++ [58, 47, 47] ++ _ = _
 simp
theorem zwi {o : Ov} (h : zvy o = true) (hp : o.port ≠ z6r o.scheme) : bs o.scheme ++ ⟨#[58, 47, 47]⟩ ++ bs (zhz o.host) ++ (⟨#[58]⟩ ++ bs (Lib.decDigits o.port.toNat)) = bs (zvz o) := by
 apply zb2
 unfold zvz zvx
 rw [if_pos h, if_neg hp, zb6, zb6, zb6, zb6, zb0, zb0, zb0, zb0]
 show o.scheme ++ [58, 47, 47] ++ _ ++ ([58] ++ _) = _
 simp
set_option maxRecDepth 20000 in
theorem zwj (o : Ov) (h : OSm o) (w : World) (hw : Uw w) :
 Calls Tryz.prog 31 #[.agg o.cells] w fun e w' => e = .returned (.string (bs (zvz o))) /\ Below w.heap.size w w' := by
 have hO := zww o
 have hH2 : o.host.cells.size = 11 := rfl
 have HW := jL hw
 have c1 := fun W => z8j (bs o.scheme) W
 rw [zb0] at c1
 have c2 := fun W => zja o.host W h.wf (by have := h.hn; omega)
 rw [show o.host.val = .agg o.host.cells from rfl] at c2
 cases hsp : z6s o.scheme with
 | false =>
   have HF : Hid (zvz o = []) := jL (by unfold zvz zvy; rw [hsp]; rfl)
   rw [hsp] at c1
   rw [HF.out]
   generalize o.cells = O at *
   generalize o.host.cells = H at *
   generalize bs o.scheme = S at *
   generalize bs o.host.name = N at *
   generalize o.port = p at *
   clear h hw hsp c2
   go_enter Tryz.func31, Tryz.ntmps31
   go_wp2_with (first
    | (refine zax _ rfl 1 rfl _ _ rfl _ O (by exact rfl) (by exact rfl) ?_
       intro W1 g1 hg1 hl1 hr1 hG1
       have hbw := zav (Below.refl w.heap.size w) hG1 jH
       obtain ⟨f0, f2, f12⟩ := hO.cell hr1)
    | (go_at_call 15; refine (c1 _).mono ?_; rintro e w5 ⟨rfl, rfl⟩))
   go_ret
   exact ⟨rfl, hbw⟩
 | true =>
 rw [hsp] at c1
 cases hva : zhx o.host with
 | false =>
   have HF : Hid (zvz o = []) := jL (by unfold zvz zvy; rw [hsp, hva]; rfl)
   rw [hva] at c2
   rw [HF.out]
   generalize o.cells = O at *
   generalize o.host.cells = H at *
   generalize bs o.scheme = S at *
   generalize bs o.host.name = N at *
   generalize o.port = p at *
   clear h hw hsp hva
   go_enter Tryz.func31, Tryz.ntmps31
   go_wp2_with (first
    | (refine zax _ rfl 1 rfl _ _ rfl _ O (by exact rfl) (by exact rfl) ?_
       intro W1 g1 hg1 hl1 hr1 hG1
       have hbw := zav (Below.refl w.heap.size w) hG1 jH
       obtain ⟨f0, f2, f12⟩ := hO.cell hr1)
    | (go_at_call 15; refine (c1 _).mono ?_; rintro e w5 ⟨rfl, rfl⟩)
    | (refine zwt (by rfl) _ rfl g1 (by exact rfl) O hr1 H hO.hh hH2 ?_)
    | (go_at_call 45; refine (c2 _).mono ?_; rintro e wd0 ⟨rfl, hb5⟩
       clear f0 f2 f12
       replace hr1 : zwq wd0 g1 O := Row.below hr1 hb5 (Row.lt hr1)
       replace hbw := hbw.trans (hb5.mono hbw.size)
       clear hb5
       obtain ⟨f0, f2, f12⟩ := hO.cell hr1))
   go_ret
   exact ⟨rfl, hbw⟩
 | true =>
 rw [hva] at c2
 by_cases hr : 0 <= o.port /\ o.port <= 65535
 ·have hg : zvy o = true := by unfold zvy; rw [hsp, hva, jT hr.1, jT hr.2]; rfl
  have HR1 := jL (zwh (o := o) hg)
  have HR2 := jL (zwi (o := o) hg)
  have c3 := fun W hW => zjc o.host W h.wf (by have := h.hn; omega) hW
  rw [show o.host.val = .agg o.host.cells from rfl] at c3
  have c4 := fun W => z8k ⟨o.scheme, [], hv0, -1, []⟩ W
  rw [show (if (Uv.mk o.scheme [] hv0 (-1) []).port = -1 then z6r (Uv.mk o.scheme [] hv0 (-1) []).scheme else (Uv.mk o.scheme [] hv0 (-1) []).port) = z6r o.scheme from if_pos rfl] at c4
  have c5 := fun W => z1x o.port hr.1 (by omega) W
  have zS : (bs o.scheme).size <= 100000000 := by rw [zb5]; exact h.s1
  have zF : (bs (zhz o.host)).size <= 100000100 := by
   rw [zb5]
   have := zgt h.wf
   have := h.hn
   omega
  have zD : (bs (Lib.decDigits o.port.toNat)).size <= 19 := z1s o.port.toNat (by omega)
  have HD : Hid (#[.string (bs o.scheme), .string ⟨#[]⟩, .int .i64 0, .string ⟨#[]⟩, .int .u32 0, .int .u16 0, .int .u16 0, .int .u16 0, .int .u16 0, .int .u16 0, .int .u16 0, .int .u16 0, .int .u16 0, .int .i64 (-1), .string ⟨#[]⟩] = (Uv.mk o.scheme [] hv0 (-1) []).cells) := jL rfl
  have n1 : ¬ 9223372036854775807 < (bs o.scheme).size + 3 := by omega
  have n2 : ¬ 9223372036854775807 < (bs o.scheme).size + 3 + (bs (zhz o.host)).size := by omega
  have n3 : ¬ 9223372036854775807 < 1 + (bs (Lib.decDigits o.port.toNat)).size := by omega
  have n4 : ¬ 9223372036854775807 < (bs o.scheme).size + 3 + (bs (zhz o.host)).size + (1 + (bs (Lib.decDigits o.port.toNat)).size) := by omega
  have q3 : ¬ o.port < 0 := by omega
  have q4 : ¬ 65535 < o.port := by omega
  generalize (Uv.mk o.scheme [] hv0 (-1) []).cells = D at *
  generalize bs (zvz o) = X at *
  generalize o.cells = O at *
  generalize o.host.cells = H at *
  generalize bs (zhz o.host) = F at *
  generalize bs (Lib.decDigits o.port.toNat) = G at *
  generalize bs o.scheme = S at *
  generalize bs o.host.name = N at *
  generalize z6r o.scheme = z at *
  generalize o.port = p at *
  clear h hw hsp hva hr hg zS zF zD
  by_cases hp : p = z
  ·have hq : (p == z) = true := by rw [hp]; simp
   have hq2 : (p != z) = false := by rw [bne, hq]; rfl
   have HX := jL (HR1.out hp)
   clear hp HR1 HR2 c5 n3 n4
   go_enter Tryz.func31, Tryz.ntmps31
   go_upto_region 3 with (first
    | (refine zax _ rfl 1 rfl _ _ rfl _ O (by exact rfl) (by exact rfl) ?_
       intro W1 g1 hg1 hl1 hr1 hG1
       have hbw := zav (Below.refl w.heap.size w) hG1 jH
       obtain ⟨f0, f2, f12⟩ := hO.cell hr1)
    | (go_at_call 15; refine (c1 _).mono ?_; rintro e w5 ⟨rfl, rfl⟩)
    | (refine zwt (by rfl) _ rfl g1 (by exact rfl) O hr1 H hO.hh hH2 ?_)
    | (go_at_call 45; refine (c2 _).mono ?_; rintro e wd0 ⟨rfl, hb5⟩
       clear f0 f2 f12
       replace hr1 : zwq wd0 g1 O := Row.below hr1 hb5 (Row.lt hr1)
       replace hbw := hbw.trans (hb5.mono hbw.size)
       clear hb5
       obtain ⟨f0, f2, f12⟩ := hO.cell hr1))
   clear f0 f2 f12
   replace hr1 : zwq wd0.drew g1 O := hr1
   replace hbw := hbw.drew
   refine wp_region_held_drew (S := fun W => zwq W g1 O) (by kernel_rfl) hr1 (fun _ => ?_)
   generalize wd0.drew = wd at *
   refine wpAnyH_take (i := 0) (v := .pointer (some ⟨g1, 0, none⟩)) rfl (by kernel_rfl) (by kernel_rfl) (by kernel_rfl) (fun _ _ _ h => h) (Or.inl ⟨by rfl, fun W hW => by go_simp; try (with_reducible rfl)⟩) hr1 ?_
   try simp only [Act.put, List.getElem_toArray, List.getElem_cons_zero, jqd, jqe, jqf]
   refine wpAnyH_take (i := 1) (v := .string S) rfl (by kernel_rfl) (by kernel_rfl) (by kernel_rfl) (fun _ _ _ h => h) (Or.inl ⟨by rfl, fun W hW => by have h9 := (hO.cell hW).1; go_simp; try (with_reducible rfl)⟩) hr1 ?_
   try simp only [Act.put, List.getElem_toArray, List.getElem_cons_zero, List.getElem_cons_succ, jqd, jqe, jqf]
   refine wpAnyH_take (i := 2) (v := .string (S ++ ⟨#[58, 47, 47]⟩)) rfl (by kernel_rfl) (by kernel_rfl) (by kernel_rfl) (fun _ _ _ h => h) (Or.inl ⟨by rfl, fun W hW => by go_simp; try (with_reducible rfl)⟩) hr1 ?_
   try simp only [Act.put, List.getElem_toArray, List.getElem_cons_zero, List.getElem_cons_succ, jqd, jqe, jqf]
   refine wpAnyH_take (i := 3) (v := .pointer (some ⟨g1, 1, none⟩)) rfl (by kernel_rfl) (by kernel_rfl) (by kernel_rfl) (fun _ _ _ h => h) (Or.inl ⟨by rfl, fun W hW => by go_simp; try (with_reducible rfl)⟩) hr1 ?_
   try simp only [Act.put, List.getElem_toArray, List.getElem_cons_zero, List.getElem_cons_succ, jqd, jqe, jqf]
   refine wpAnyH_take (i := 4) (v := .agg H) rfl (by kernel_rfl) (by kernel_rfl) (by kernel_rfl) (fun _ _ _ h => h) (zw0 _ rfl (by rfl) g1 (by exact rfl) O H (fun W hW => hW) hO.hh hH2) hr1 ?_
   try simp only [Act.put, List.getElem_toArray, List.getElem_cons_zero, List.getElem_cons_succ, jqd, jqe, jqf]
   refine wpAnyH_ready (rs := [5]) (by kernel_rfl) (by simp) (AllReadyH.cons rfl (fun K hK => ?_) AllReadyH.nil)
   go_simp
   go_wp2_with fail
   refine (c3 _ (z52 HW.out hbw).1.1).mono ?_
   rintro e wA ⟨rfl, hbA⟩
   replace hr1 : zwq wA g1 O := Row.below hr1 hbA (Row.lt hr1)
   replace hbw := hbw.trans (hbA.mono hbw.size)
   clear hbA
   refine hK.out _ _ hr1 (fun _ => ?_)
   clear hK K
   try simp only [Act.put, List.getElem_toArray, List.getElem_cons_zero, List.getElem_cons_succ, jqd, jqe, jqf]
   refine wpAnyH_take (i := 6) (v := .string (S ++ ⟨#[58, 47, 47]⟩ ++ F)) rfl (by kernel_rfl) (by kernel_rfl) (by kernel_rfl) (fun _ _ _ h => h) (Or.inl ⟨by rfl, fun W hW => by go_simp; try (with_reducible rfl)⟩) hr1 ?_
   try simp only [Act.put, List.getElem_toArray, List.getElem_cons_zero, List.getElem_cons_succ, jqd, jqe, jqf]
   refine wpAnyH_ready (rs := [7]) (by kernel_rfl) (by simp) (AllReadyH.cons rfl (fun K hK => ?_) AllReadyH.nil)
   go_simp
   refine hK.out _ _ hr1 (fun _ => ?_)
   clear hK K
   try simp only [Act.put, List.getElem_toArray, List.getElem_cons_zero, List.getElem_cons_succ, jqd, jqe, jqf]
   refine wpAnyH_done (by kernel_rfl) ?_ _
   go_upto_region 4 with fail
   obtain ⟨f0, f2, f12⟩ := hO.cell hr1
   clear f0 f2 f12
   replace hr1 : zwq wA.drew g1 O := hr1
   replace hbw := hbw.drew
   refine wp_region_held_drew (S := fun W => zwq W g1 O) (by kernel_rfl) hr1 (fun _ => ?_)
   generalize wA.drew = wd at *
   refine wpAnyH_take (i := 0) (v := .pointer (some ⟨g1, 12, none⟩)) rfl (by kernel_rfl) (by kernel_rfl) (by kernel_rfl) (fun _ _ _ h => h) (Or.inl ⟨by rfl, fun W hW => by go_simp; try (with_reducible rfl)⟩) hr1 ?_
   try simp only [Act.put, List.getElem_toArray, List.getElem_cons_zero, jqd, jqe, jqf]
   refine wpAnyH_take (i := 1) (v := .int .i64 p) rfl (by kernel_rfl) (by kernel_rfl) (by kernel_rfl) (fun _ _ _ h => h) (Or.inl ⟨by rfl, fun W hW => by have h9 := (hO.cell hW).2.2; go_simp; try (with_reducible rfl)⟩) hr1 ?_
   try simp only [Act.put, List.getElem_toArray, List.getElem_cons_zero, List.getElem_cons_succ, jqd, jqe, jqf]
   refine wpAnyH_take (i := 2) (v := .pointer (some ⟨g1, 0, none⟩)) rfl (by kernel_rfl) (by kernel_rfl) (by kernel_rfl) (fun _ _ _ h => h) (Or.inl ⟨by rfl, fun W hW => by go_simp; try (with_reducible rfl)⟩) hr1 ?_
   try simp only [Act.put, List.getElem_toArray, List.getElem_cons_zero, List.getElem_cons_succ, jqd, jqe, jqf]
   refine wpAnyH_take (i := 3) (v := .string S) rfl (by kernel_rfl) (by kernel_rfl) (by kernel_rfl) (fun _ _ _ h => h) (Or.inl ⟨by rfl, fun W hW => by have h9 := (hO.cell hW).1; go_simp; try (with_reducible rfl)⟩) hr1 ?_
   try simp only [Act.put, List.getElem_toArray, List.getElem_cons_zero, List.getElem_cons_succ, jqd, jqe, jqf]
   refine wpAnyH_take (i := 4) (v := .agg D) rfl (by kernel_rfl) (by kernel_rfl) (by kernel_rfl) (fun _ _ _ h => h) (Or.inl ⟨by rfl, fun W hW => by have h9 := HD.out; go_simp; try (with_reducible rfl)⟩) hr1 ?_
   try simp only [Act.put, List.getElem_toArray, List.getElem_cons_zero, List.getElem_cons_succ, jqd, jqe, jqf]
   refine wpAnyH_ready (rs := [5]) (by kernel_rfl) (by simp) (AllReadyH.cons rfl (fun K hK => ?_) AllReadyH.nil)
   go_simp
   go_wp2_with fail
   refine (c4 _).mono ?_
   rintro e wA ⟨rfl, hbA⟩
   replace hr1 : zwq wA g1 O := Row.below hr1 hbA (Row.lt hr1)
   replace hbw := hbw.trans (hbA.mono hbw.size)
   clear hbA
   refine hK.out _ _ hr1 (fun _ => ?_)
   clear hK K
   try simp only [Act.put, List.getElem_toArray, List.getElem_cons_zero, List.getElem_cons_succ, jqd, jqe, jqf]
   refine wpAnyH_ready (rs := [6]) (by kernel_rfl) (by simp) (AllReadyH.cons rfl (fun K hK => ?_) AllReadyH.nil)
   go_simp
   refine hK.out _ _ hr1 (fun _ => ?_)
   clear hK K
   try simp only [Act.put, List.getElem_toArray, List.getElem_cons_zero, List.getElem_cons_succ, jqd, jqe, jqf]
   refine wpAnyH_done (by kernel_rfl) ?_ _
   go_wp2
   go_ret
   rw [HX.out]
   exact ⟨rfl, hbw⟩
  ·have hq : (p == z) = false := by rw [beq_eq_false_iff_ne]; exact hp
   have hq2 : (p != z) = true := by rw [bne, hq]; rfl
   have HX := jL (HR2.out hp)
   clear hp HR1 HR2
   go_enter Tryz.func31, Tryz.ntmps31
   go_upto_region 3 with (first
    | (refine zax _ rfl 1 rfl _ _ rfl _ O (by exact rfl) (by exact rfl) ?_
       intro W1 g1 hg1 hl1 hr1 hG1
       have hbw := zav (Below.refl w.heap.size w) hG1 jH
       obtain ⟨f0, f2, f12⟩ := hO.cell hr1)
    | (go_at_call 15; refine (c1 _).mono ?_; rintro e w5 ⟨rfl, rfl⟩)
    | (refine zwt (by rfl) _ rfl g1 (by exact rfl) O hr1 H hO.hh hH2 ?_)
    | (go_at_call 45; refine (c2 _).mono ?_; rintro e wd0 ⟨rfl, hb5⟩
       clear f0 f2 f12
       replace hr1 : zwq wd0 g1 O := Row.below hr1 hb5 (Row.lt hr1)
       replace hbw := hbw.trans (hb5.mono hbw.size)
       clear hb5
       obtain ⟨f0, f2, f12⟩ := hO.cell hr1))
   clear f0 f2 f12
   replace hr1 : zwq wd0.drew g1 O := hr1
   replace hbw := hbw.drew
   refine wp_region_held_drew (S := fun W => zwq W g1 O) (by kernel_rfl) hr1 (fun _ => ?_)
   generalize wd0.drew = wd at *
   refine wpAnyH_take (i := 0) (v := .pointer (some ⟨g1, 0, none⟩)) rfl (by kernel_rfl) (by kernel_rfl) (by kernel_rfl) (fun _ _ _ h => h) (Or.inl ⟨by rfl, fun W hW => by go_simp; try (with_reducible rfl)⟩) hr1 ?_
   try simp only [Act.put, List.getElem_toArray, List.getElem_cons_zero, jqd, jqe, jqf]
   refine wpAnyH_take (i := 1) (v := .string S) rfl (by kernel_rfl) (by kernel_rfl) (by kernel_rfl) (fun _ _ _ h => h) (Or.inl ⟨by rfl, fun W hW => by have h9 := (hO.cell hW).1; go_simp; try (with_reducible rfl)⟩) hr1 ?_
   try simp only [Act.put, List.getElem_toArray, List.getElem_cons_zero, List.getElem_cons_succ, jqd, jqe, jqf]
   refine wpAnyH_take (i := 2) (v := .string (S ++ ⟨#[58, 47, 47]⟩)) rfl (by kernel_rfl) (by kernel_rfl) (by kernel_rfl) (fun _ _ _ h => h) (Or.inl ⟨by rfl, fun W hW => by go_simp; try (with_reducible rfl)⟩) hr1 ?_
   try simp only [Act.put, List.getElem_toArray, List.getElem_cons_zero, List.getElem_cons_succ, jqd, jqe, jqf]
   refine wpAnyH_take (i := 3) (v := .pointer (some ⟨g1, 1, none⟩)) rfl (by kernel_rfl) (by kernel_rfl) (by kernel_rfl) (fun _ _ _ h => h) (Or.inl ⟨by rfl, fun W hW => by go_simp; try (with_reducible rfl)⟩) hr1 ?_
   try simp only [Act.put, List.getElem_toArray, List.getElem_cons_zero, List.getElem_cons_succ, jqd, jqe, jqf]
   refine wpAnyH_take (i := 4) (v := .agg H) rfl (by kernel_rfl) (by kernel_rfl) (by kernel_rfl) (fun _ _ _ h => h) (zw0 _ rfl (by rfl) g1 (by exact rfl) O H (fun W hW => hW) hO.hh hH2) hr1 ?_
   try simp only [Act.put, List.getElem_toArray, List.getElem_cons_zero, List.getElem_cons_succ, jqd, jqe, jqf]
   refine wpAnyH_ready (rs := [5]) (by kernel_rfl) (by simp) (AllReadyH.cons rfl (fun K hK => ?_) AllReadyH.nil)
   go_simp
   go_wp2_with fail
   refine (c3 _ (z52 HW.out hbw).1.1).mono ?_
   rintro e wA ⟨rfl, hbA⟩
   replace hr1 : zwq wA g1 O := Row.below hr1 hbA (Row.lt hr1)
   replace hbw := hbw.trans (hbA.mono hbw.size)
   clear hbA
   refine hK.out _ _ hr1 (fun _ => ?_)
   clear hK K
   try simp only [Act.put, List.getElem_toArray, List.getElem_cons_zero, List.getElem_cons_succ, jqd, jqe, jqf]
   refine wpAnyH_take (i := 6) (v := .string (S ++ ⟨#[58, 47, 47]⟩ ++ F)) rfl (by kernel_rfl) (by kernel_rfl) (by kernel_rfl) (fun _ _ _ h => h) (Or.inl ⟨by rfl, fun W hW => by go_simp; try (with_reducible rfl)⟩) hr1 ?_
   try simp only [Act.put, List.getElem_toArray, List.getElem_cons_zero, List.getElem_cons_succ, jqd, jqe, jqf]
   refine wpAnyH_ready (rs := [7]) (by kernel_rfl) (by simp) (AllReadyH.cons rfl (fun K hK => ?_) AllReadyH.nil)
   go_simp
   refine hK.out _ _ hr1 (fun _ => ?_)
   clear hK K
   try simp only [Act.put, List.getElem_toArray, List.getElem_cons_zero, List.getElem_cons_succ, jqd, jqe, jqf]
   refine wpAnyH_done (by kernel_rfl) ?_ _
   go_upto_region 4 with fail
   obtain ⟨f0, f2, f12⟩ := hO.cell hr1
   clear f0 f2 f12
   replace hr1 : zwq wA.drew g1 O := hr1
   replace hbw := hbw.drew
   refine wp_region_held_drew (S := fun W => zwq W g1 O) (by kernel_rfl) hr1 (fun _ => ?_)
   generalize wA.drew = wd at *
   refine wpAnyH_take (i := 0) (v := .pointer (some ⟨g1, 12, none⟩)) rfl (by kernel_rfl) (by kernel_rfl) (by kernel_rfl) (fun _ _ _ h => h) (Or.inl ⟨by rfl, fun W hW => by go_simp; try (with_reducible rfl)⟩) hr1 ?_
   try simp only [Act.put, List.getElem_toArray, List.getElem_cons_zero, jqd, jqe, jqf]
   refine wpAnyH_take (i := 1) (v := .int .i64 p) rfl (by kernel_rfl) (by kernel_rfl) (by kernel_rfl) (fun _ _ _ h => h) (Or.inl ⟨by rfl, fun W hW => by have h9 := (hO.cell hW).2.2; go_simp; try (with_reducible rfl)⟩) hr1 ?_
   try simp only [Act.put, List.getElem_toArray, List.getElem_cons_zero, List.getElem_cons_succ, jqd, jqe, jqf]
   refine wpAnyH_take (i := 2) (v := .pointer (some ⟨g1, 0, none⟩)) rfl (by kernel_rfl) (by kernel_rfl) (by kernel_rfl) (fun _ _ _ h => h) (Or.inl ⟨by rfl, fun W hW => by go_simp; try (with_reducible rfl)⟩) hr1 ?_
   try simp only [Act.put, List.getElem_toArray, List.getElem_cons_zero, List.getElem_cons_succ, jqd, jqe, jqf]
   refine wpAnyH_take (i := 3) (v := .string S) rfl (by kernel_rfl) (by kernel_rfl) (by kernel_rfl) (fun _ _ _ h => h) (Or.inl ⟨by rfl, fun W hW => by have h9 := (hO.cell hW).1; go_simp; try (with_reducible rfl)⟩) hr1 ?_
   try simp only [Act.put, List.getElem_toArray, List.getElem_cons_zero, List.getElem_cons_succ, jqd, jqe, jqf]
   refine wpAnyH_take (i := 4) (v := .agg D) rfl (by kernel_rfl) (by kernel_rfl) (by kernel_rfl) (fun _ _ _ h => h) (Or.inl ⟨by rfl, fun W hW => by have h9 := HD.out; go_simp; try (with_reducible rfl)⟩) hr1 ?_
   try simp only [Act.put, List.getElem_toArray, List.getElem_cons_zero, List.getElem_cons_succ, jqd, jqe, jqf]
   refine wpAnyH_ready (rs := [5]) (by kernel_rfl) (by simp) (AllReadyH.cons rfl (fun K hK => ?_) AllReadyH.nil)
   go_simp
   go_wp2_with fail
   refine (c4 _).mono ?_
   rintro e wA ⟨rfl, hbA⟩
   replace hr1 : zwq wA g1 O := Row.below hr1 hbA (Row.lt hr1)
   replace hbw := hbw.trans (hbA.mono hbw.size)
   clear hbA
   refine hK.out _ _ hr1 (fun _ => ?_)
   clear hK K
   try simp only [Act.put, List.getElem_toArray, List.getElem_cons_zero, List.getElem_cons_succ, jqd, jqe, jqf]
   refine wpAnyH_ready (rs := [6]) (by kernel_rfl) (by simp) (AllReadyH.cons rfl (fun K hK => ?_) AllReadyH.nil)
   go_simp
   refine hK.out _ _ hr1 (fun _ => ?_)
   clear hK K
   try simp only [Act.put, List.getElem_toArray, List.getElem_cons_zero, List.getElem_cons_succ, jqd, jqe, jqf]
   refine wpAnyH_done (by kernel_rfl) ?_ _
   obtain ⟨f0, f2, f12⟩ := hO.cell hr1
   go_wp2_with fail
   refine (c5 _).mono ?_
   rintro e w9 ⟨rfl, hb5⟩
   replace hbw := hbw.trans (hb5.mono hbw.size)
   go_wp2
   go_ret
   rw [HX.out]
   exact ⟨rfl, hbw⟩
 ·have HF : Hid (zvz o = []) := jL (by
   unfold zvz zvy
   rw [hsp, hva, if_neg]
   simp
   omega)
  rw [HF.out]
  have q4 : ¬ o.port < 0 -> 65535 < o.port := by omega
  generalize o.cells = O at *
  generalize o.host.cells = H at *
  generalize bs o.scheme = S at *
  generalize bs o.host.name = N at *
  generalize o.port = p at *
  clear h hw hsp hva hr
  by_cases q3 : p < 0
  ·clear q4
   go_enter Tryz.func31, Tryz.ntmps31
   go_wp2_with (first
    | (refine zax _ rfl 1 rfl _ _ rfl _ O (by exact rfl) (by exact rfl) ?_
       intro W1 g1 hg1 hl1 hr1 hG1
       have hbw := zav (Below.refl w.heap.size w) hG1 jH
       obtain ⟨f0, f2, f12⟩ := hO.cell hr1)
    | (go_at_call 15; refine (c1 _).mono ?_; rintro e w5 ⟨rfl, rfl⟩)
    | (refine zwt (by rfl) _ rfl g1 (by exact rfl) O hr1 H hO.hh hH2 ?_)
    | (go_at_call 45; refine (c2 _).mono ?_; rintro e wd0 ⟨rfl, hb5⟩
       clear f0 f2 f12
       replace hr1 : zwq wd0 g1 O := Row.below hr1 hb5 (Row.lt hr1)
       replace hbw := hbw.trans (hb5.mono hbw.size)
       clear hb5
       obtain ⟨f0, f2, f12⟩ := hO.cell hr1))
   go_ret
   exact ⟨rfl, hbw⟩
  ·have q5 := q4 q3
   clear q4
   go_enter Tryz.func31, Tryz.ntmps31
   go_wp2_with (first
    | (refine zax _ rfl 1 rfl _ _ rfl _ O (by exact rfl) (by exact rfl) ?_
       intro W1 g1 hg1 hl1 hr1 hG1
       have hbw := zav (Below.refl w.heap.size w) hG1 jH
       obtain ⟨f0, f2, f12⟩ := hO.cell hr1)
    | (go_at_call 15; refine (c1 _).mono ?_; rintro e w5 ⟨rfl, rfl⟩)
    | (refine zwt (by rfl) _ rfl g1 (by exact rfl) O hr1 H hO.hh hH2 ?_)
    | (go_at_call 45; refine (c2 _).mono ?_; rintro e wd0 ⟨rfl, hb5⟩
       clear f0 f2 f12
       replace hr1 : zwq wd0 g1 O := Row.below hr1 hb5 (Row.lt hr1)
       replace hbw := hbw.trans (hb5.mono hbw.size)
       clear hb5
       obtain ⟨f0, f2, f12⟩ := hO.cell hr1))
   go_ret
   exact ⟨rfl, hbw⟩
end

section
open Go.RowKit
set_option maxHeartbeats 16000000
theorem zfx : Tryz.prog.underlying 3 = some (.int .i64) := by kernel_rfl
theorem zfy : Tryz.prog.underlying 23 = some (.int .u16) := by kernel_rfl
theorem zfz : Tryz.prog.underlying 22 = some (.int .u32) := by kernel_rfl
theorem zf0 : Tryz.prog.underlying 9 = some .string := by kernel_rfl
theorem zf1 {v : Int} (h : (Lit.int .u16 v).wf = true) : ∃ n : Nat, v = (n : Int) /\ n < 65536 := by
 have h1 : IntKind.u16.min = 0 := rfl
 have h2 : IntKind.u16.max = 65535 := rfl
 simp [Lit.wf, h1, h2] at h
 exact ⟨v.toNat, by omega, by omega⟩
theorem zf2 {v : Int} (h : (Lit.int .u32 v).wf = true) : ∃ n : Nat, v = (n : Int) /\ n < 4294967296 := by
 have h1 : IntKind.u32.min = 0 := rfl
 have h2 : IntKind.u32.max = 4294967295 := rfl
 simp [Lit.wf, h1, h2] at h
 exact ⟨v.toNat, by omega, by omega⟩
open Go.ChangeShapes Go.WideShapes in
set_option maxRecDepth 100000 in
theorem zf3 {H : Type} {enc : TypeId × Value -> H} {W : World} {held : Bool} {fuel : Nat} {c0 c1 c2 c3 c4 c5 c6 c7 : Value} {x : DataW H × List MemPlace} (hf : DataW.trod enc Tryz.prog W 0 (fun _ => true) held fuel 24 [c0, c1, c2, c3, c4, c5, c6, c7] = some x) :
 ∃ n0 n1 n2 n3 n4 n5 n6 n7 : Nat, c0 = .int .u16 n0 /\ c1 = .int .u16 n1 /\ c2 = .int .u16 n2 /\ c3 = .int .u16 n3 /\ c4 = .int .u16 n4 /\ c5 = .int .u16 n5 /\ c6 = .int .u16 n6 /\ c7 = .int .u16 n7 /\ G16 [n0, n1, n2, n3, n4, n5, n6, n7] := by
 have hc1 : Tryz.prog.cellsOf 23 = 1 := by kernel_rfl
 match fuel with
 | 0 => simp [DataW.trod] at hf
 | n + 1 =>
   unfold DataW.trod at hf
   rw [Tryz.underlying24] at hf
   simp [show List.range 8 = [0, 1, 2, 3, 4, 5, 6, 7] from rfl, hc1] at hf
   cases h0 : DataW.trod enc Tryz.prog W 0 (fun _ => true) held n 23 [c0] with
   | none => simp [h0] at hf
   | some y0 =>
     cases h1 : DataW.trod enc Tryz.prog W 0 (fun _ => true) held n 23 [c1] with
     | none => simp [h0, h1] at hf
     | some y1 =>
       cases h2 : DataW.trod enc Tryz.prog W 0 (fun _ => true) held n 23 [c2] with
       | none => simp [h0, h1, h2] at hf
       | some y2 =>
         cases h3 : DataW.trod enc Tryz.prog W 0 (fun _ => true) held n 23 [c3] with
         | none => simp [h0, h1, h2, h3] at hf
         | some y3 =>
           cases h4 : DataW.trod enc Tryz.prog W 0 (fun _ => true) held n 23 [c4] with
           | none => simp [h0, h1, h2, h3, h4] at hf
           | some y4 =>
             cases h5 : DataW.trod enc Tryz.prog W 0 (fun _ => true) held n 23 [c5] with
             | none => simp [h0, h1, h2, h3, h4, h5] at hf
             | some y5 =>
               cases h6 : DataW.trod enc Tryz.prog W 0 (fun _ => true) held n 23 [c6] with
               | none => simp [h0, h1, h2, h3, h4, h5, h6] at hf
               | some y6 =>
                 cases h7 : DataW.trod enc Tryz.prog W 0 (fun _ => true) held n 23 [c7] with
                 | none => simp [h0, h1, h2, h3, h4, h5, h6, h7] at hf
                 | some y7 =>
                   obtain ⟨x0, e0, _, w0⟩ := DataW.trod_int zfy h0
                   obtain ⟨x1, e1, _, w1⟩ := DataW.trod_int zfy h1
                   obtain ⟨x2, e2, _, w2⟩ := DataW.trod_int zfy h2
                   obtain ⟨x3, e3, _, w3⟩ := DataW.trod_int zfy h3
                   obtain ⟨x4, e4, _, w4⟩ := DataW.trod_int zfy h4
                   obtain ⟨x5, e5, _, w5⟩ := DataW.trod_int zfy h5
                   obtain ⟨x6, e6, _, w6⟩ := DataW.trod_int zfy h6
                   obtain ⟨x7, e7, _, w7⟩ := DataW.trod_int zfy h7
                   simp at e0 e1 e2 e3 e4 e5 e6 e7
                   subst e0 e1 e2 e3 e4 e5 e6 e7
                   obtain ⟨n0, rfl, b0⟩ := zf1 w0
                   obtain ⟨n1, rfl, b1⟩ := zf1 w1
                   obtain ⟨n2, rfl, b2⟩ := zf1 w2
                   obtain ⟨n3, rfl, b3⟩ := zf1 w3
                   obtain ⟨n4, rfl, b4⟩ := zf1 w4
                   obtain ⟨n5, rfl, b5⟩ := zf1 w5
                   obtain ⟨n6, rfl, b6⟩ := zf1 w6
                   obtain ⟨n7, rfl, b7⟩ := zf1 w7
                   refine ⟨n0, n1, n2, n3, n4, n5, n6, n7, rfl, rfl, rfl, rfl, rfl, rfl, rfl, rfl, ?_⟩
                   intro x hx
                   simp only [List.mem_cons, List.not_mem_nil, or_false] at hx
                   rcases hx with rfl | rfl | rfl | rfl | rfl | rfl | rfl | rfl <;> assumption
end

section
open Go.RowKit
set_option maxHeartbeats 16000000
def zsu (n : Int) (ss : List ByteArray) : Bool := ss.all fun s => decide ((s.size : Int) <= n)
theorem zsv (n : Int) (ss : List ByteArray) (k : Nat) (h : k < ss.length) (hn : n < (ss[k].size : Int)) : zsu n ss = false := by
 unfold zsu
 rw [List.all_eq_false]
 exact ⟨ss[k], List.getElem_mem h, by simp; omega⟩
theorem zsw (n : Int) (ss : List ByteArray) (k : Nat) (h : k < ss.length) (ht : zsu n (ss.take k) = true) (hn : (ss[k].size : Int) <= n) : zsu n (ss.take (k + 1)) = true := by
 unfold zsu at ht ⊢
 rw [List.take_succ_eq_append_getElem h, List.all_append, ht]
 simp [hn]
theorem zsx (n : Int) (A : Option Addr) (len cap : Nat) (ss : List ByteArray) (B : Nat) (w : World) (hA : Has w B A len (ss.map Value.string)) (hlen : len <= 1000000000) :
 Calls Tryz.prog 29 #[.int .i64 n, .slice A len cap] w fun e w' => e = .returned (.bool (zsu n ss)) /\ w = w' := by
 have hl : ss.length = len := by simpa using hA.1
 go_enter Tryz.func29, Tryz.ntmps29
 have HL := jL hl
 have HA := jL hA
 clear hl hA
 go_wp2
 go_loop [5] (fun i => ∃ k : Nat, k <= len /\ i = .int .i64 k /\ zsu n (ss.take k) = true) (fun i => len - (intOf i).toNat)
 case atStart => exact ⟨0, Nat.zero_le _, rfl, rfl⟩
 case round =>
  obtain ⟨k, hk, rfl, hsh⟩ := hrel
  have HS := jL hsh
  clear hsh
  by_cases hlt : k < len
  ·have hks : k < ss.length := by rw [HL.out]; exact hlt
   obtain ⟨b, off, rfl, hb, hc⟩ := HA.out.at_ hlt
   rw [List.getElem_map] at hc
   by_cases hn : n < (ss[k].size : Int)
   ·have HF := jL (zsv n ss k hks hn)
    go_wp2
    go_ret
    exact ⟨zbx HF.out.symm, rfl⟩
   ·have HT := jL (zsw n ss k hks HS.out (by omega))
    go_wp2
    go_round
    case rel => exact ⟨k + 1, by omega, by go_num, HT.out⟩
    case measure => simp [intOf]; omega
  ·have HF : Hid (zsu n ss = true) := by
    have := HS.out
    rwa [List.take_of_length_le (by rw [HL.out]; omega)] at this
   go_wp2
   go_ret
   exact ⟨zbx HF.out.symm, rfl⟩
end

section
open Go.RowKit Go.Shelf
set_option maxHeartbeats 16000000
end

section
open Go.RowKit
set_option maxHeartbeats 16000000
theorem z6l {v : Int} (h : (Lit.int .i64 v).wf = true) : -9223372036854775808 <= v /\ v <= 9223372036854775807 := by
 have h1 : IntKind.i64.min = -9223372036854775808 := rfl
 have h2 : IntKind.i64.max = 9223372036854775807 := rfl
 simp [Lit.wf, h1, h2] at h
 exact h
open Go.ChangeShapes Go.WideShapes Go.ChangeMaps in
set_option maxRecDepth 100000 in
theorem z6m {H : Type} {enc : TypeId × Value -> H} {W : World} {held : Bool} {fuel : Nat} {c0 c1 c2 c3 c4 c5 c6 c7 c8 c9 c10 : Value} {x : DataW H × List MemPlace} (hf : DataW.trod enc Tryz.prog W 0 (fun _ => true) held fuel 26 [c0, c1, c2, c3, c4, c5, c6, c7, c8, c9, c10] = some x) :
 ∃ Z : Hv, [c0, c1, c2, c3, c4, c5, c6, c7, c8, c9, c10] = Z.cells.toList /\ Z.Wf := by
 have hci : Tryz.prog.cellsOf 3 = 1 := by kernel_rfl
 have hcs : Tryz.prog.cellsOf 9 = 1 := by kernel_rfl
 have hc32 : Tryz.prog.cellsOf 22 = 1 := by kernel_rfl
 have hc8 : Tryz.prog.cellsOf 24 = 8 := by kernel_rfl
 obtain ⟨ys, n', _, _, _, hyl, hg⟩ := DataW.trod_struct Tryz.underlying26 hf
 obtain ⟨y0, y1, y2, y3, rfl⟩ : ∃ y0 y1 y2 y3, ys = [y0, y1, y2, y3] := by
  match ys, hyl with
  | [y0, y1, y2, y3], _ => exact ⟨y0, y1, y2, y3, rfl⟩
 have s0 : DataW.trod enc Tryz.prog W 0 (fun _ => true) held n' 3 [c0] = some y0 := by
  have := hg 0 _ rfl
  change DataW.trod _ _ _ _ _ _ _ 3 (List.take (Tryz.prog.cellsOf 3) _) = _ at this
  rw [hci] at this
  exact this
 have s1 : DataW.trod enc Tryz.prog W 0 (fun _ => true) held n' 9 [c1] = some y1 := by
  have := hg 1 _ rfl
  change DataW.trod _ _ _ _ _ _ _ 9 (List.take (Tryz.prog.cellsOf 9) _) = _ at this
  rw [hcs] at this
  exact this
 have s2 : DataW.trod enc Tryz.prog W 0 (fun _ => true) held n' 22 [c2] = some y2 := by
  have := hg 2 _ rfl
  change DataW.trod _ _ _ _ _ _ _ 22 (List.take (Tryz.prog.cellsOf 22) _) = _ at this
  rw [hc32] at this
  exact this
 have s3 : DataW.trod enc Tryz.prog W 0 (fun _ => true) held n' 24 [c3, c4, c5, c6, c7, c8, c9, c10] = some y3 := by
  have := hg 3 _ rfl
  change DataW.trod _ _ _ _ _ _ _ 24 (List.take (Tryz.prog.cellsOf 24) _) = _ at this
  rw [hc8] at this
  exact this
 obtain ⟨x0, e0, _, _⟩ := DataW.trod_int zfx s0
 obtain ⟨x1, e1, _, w1⟩ := DataW.trod_string zf0 s1
 obtain ⟨x2, e2, _, w2⟩ := DataW.trod_int zfz s2
 obtain ⟨n0, n1, n2, n3, n4, n5, n6, n7, rfl, rfl, rfl, rfl, rfl, rfl, rfl, rfl, hG⟩ := zf3 s3
 simp at e0 e1 e2
 subst e0 e1 e2
 obtain ⟨m2, rfl, b2⟩ := zf2 w2
 refine ⟨⟨x0, ls x1, m2, [n0, n1, n2, n3, n4, n5, n6, n7]⟩, ?_, b2, rfl, hG⟩
 unfold Hv.cells
 rw [zb1]
 rfl
end

section
open Go.RowKit
set_option maxHeartbeats 16000000
def Ov.OOk (o : Ov) : Prop := o.host.Wf /\ -9223372036854775808 <= o.port /\ o.port <= 9223372036854775807
open Go.ChangeShapes Go.WideShapes Go.ChangeMaps in
set_option maxRecDepth 100000 in
theorem open_org {H : Type} {enc : TypeId × Value -> H} {W : World} {base : Nat} {held : Bool} {v : Value} {d : DataW H} {p : List MemPlace} (hval : Value.okWide Tryz.prog W .any base 36 v) (h : DataW.Trod enc Tryz.prog W 0 (fun _ => true) held 36 v d p) :
 ∃ Z : Ov, v = .agg Z.cells /\ Z.OOk := by
 obtain ⟨cs, rfl, hsz⟩ := Go.WideShapes.okWide_struct Tryz.underlying36 hval
 have hc13 : Tryz.prog.cellsOf 36 = 13 := by kernel_rfl
 have hci : Tryz.prog.cellsOf 3 = 1 := by kernel_rfl
 have hcs : Tryz.prog.cellsOf 9 = 1 := by kernel_rfl
 have hch : Tryz.prog.cellsOf 26 = 11 := by kernel_rfl
 rw [hc13] at hsz
 obtain ⟨l⟩ := cs
 obtain ⟨u0, u1, u2, u3, u4, u5, u6, u7, u8, u9, u10, u11, u12, rfl⟩ : ∃ u0 u1 u2 u3 u4 u5 u6 u7 u8 u9 u10 u11 u12, l = [u0, u1, u2, u3, u4, u5, u6, u7, u8, u9, u10, u11, u12] := by
  match l, hsz with
  | [u0, u1, u2, u3, u4, u5, u6, u7, u8, u9, u10, u11, u12], _ => exact ⟨u0, u1, u2, u3, u4, u5, u6, u7, u8, u9, u10, u11, u12, rfl⟩
 obtain ⟨fuel, hf⟩ := h
 obtain ⟨ys, n', _, _, _, hyl, hg⟩ := DataW.trod_struct Tryz.underlying36 hf
 obtain ⟨y0, y1, y2, rfl⟩ : ∃ y0 y1 y2, ys = [y0, y1, y2] := by
  match ys, hyl with
  | [y0, y1, y2], _ => exact ⟨y0, y1, y2, rfl⟩
 have s0 : DataW.trod enc Tryz.prog W 0 (fun _ => true) held n' 9 [u0] = some y0 := by
  have := hg 0 _ rfl
  change DataW.trod _ _ _ _ _ _ _ 9 (List.take (Tryz.prog.cellsOf 9) _) = _ at this
  rw [hcs] at this
  exact this
 have s1 : DataW.trod enc Tryz.prog W 0 (fun _ => true) held n' 26 [u1, u2, u3, u4, u5, u6, u7, u8, u9, u10, u11] = some y1 := by
  have := hg 1 _ rfl
  change DataW.trod _ _ _ _ _ _ _ 26 (List.take (Tryz.prog.cellsOf 26) _) = _ at this
  rw [hch] at this
  exact this
 have s2 : DataW.trod enc Tryz.prog W 0 (fun _ => true) held n' 3 [u12] = some y2 := by
  have := hg 2 _ rfl
  change DataW.trod _ _ _ _ _ _ _ 3 (List.take (Tryz.prog.cellsOf 3) _) = _ at this
  rw [hci] at this
  exact this
 obtain ⟨x0, e0, _, _⟩ := DataW.trod_string zf0 s0
 obtain ⟨Z, eZ, hZ⟩ := z6m s1
 obtain ⟨x3, e3, _, w3⟩ := DataW.trod_int zfx s2
 have b3 := z6l w3
 refine ⟨⟨ls x0, Z, x3⟩, ?_, hZ, b3.1, b3.2⟩
 simp at e0 e3
 subst e0 e3
 obtain ⟨k, n, v4, g⟩ := Z
 have eZ2 : [u1, u2, u3, u4, u5, u6, u7, u8, u9, u10, u11] = [.int .i64 k, .string (bs n), .int .u32 (v4 : Nat), .int .u16 ((g.getD 0 0 : Nat) : Int), .int .u16 ((g.getD 1 0 : Nat) : Int), .int .u16 ((g.getD 2 0 : Nat) : Int), .int .u16 ((g.getD 3 0 : Nat) : Int), .int .u16 ((g.getD 4 0 : Nat) : Int), .int .u16 ((g.getD 5 0 : Nat) : Int), .int .u16 ((g.getD 6 0 : Nat) : Int), .int .u16 ((g.getD 7 0 : Nat) : Int)] := eZ
 simp only [List.cons.injEq, and_true] at eZ2
 obtain ⟨rfl, rfl, rfl, rfl, rfl, rfl, rfl, rfl, rfl, rfl, rfl⟩ := eZ2
 show Value.agg _ = .agg (oc (bs (ls x0)) k (bs n) (v4 : Nat) g x3)
 rw [zb1]
 rfl
end

end Go.Proofs.YtekaljeicfjkjaaGreatDoor
