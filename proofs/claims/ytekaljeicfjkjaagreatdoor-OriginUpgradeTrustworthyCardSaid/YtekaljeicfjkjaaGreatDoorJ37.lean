/-
The reference's Parse of package url.
The fixed examples of the statements of layer 16 (awake) hold.
What an upgrade changes, in plain words.
The reference's Upgrade of package url.
The law of the trustworthiness of upgrades (written by tools/gen-OrW.py).
-/
import Derived.Test.YtekaljeicfjkjaaGreatDoorJ35
import Derived.Test.YtekaljeicfjkjaaGreatDoorJ25
import Derived.Test.YtekaljeicfjkjaaGreatDoorJ36
import Derived.Test.YtekaljeicfjkjaaGreatDoorJ32
namespace Go.Proofs.YtekaljeicfjkjaaGreatDoor
section
open Go.RowKit Go.Shelf
set_option maxHeartbeats 16000000
set_option maxRecDepth 20000 in
theorem z7d (s : ByteArray) (w : World) :
 Calls Tryz.prog 32 #[.string s] w (z5e w (z6m (ls s))) := by
 by_cases h1 : 2048 < s.size
 ·have HP : Hid (z6m (ls s) = (3, uv0)) := jL (by unfold z6m; rw [zb4, if_pos h1])
  have hd : decide ((2048 : Int) < (s.size : Int)) = true := jT (by omega)
  clear h1
  go_enter Tryz.func32, Tryz.ntmps32
  go_wp2_with (first
   | (refine zay _ rfl 2 rfl _ rfl uz z43 ?_
      intro W1 g2 hg2 hl2 hr2 hG
      have hbw := zav (Below.refl w.heap.size w) hG jH)
   | (refine z84 rfl rfl _ _ rfl g2 (by exact rfl) uz (by exact rfl) uz hr2 rfl rfl (z8u _ _ _ _ _ _ _ _) ?_
      intro w7 hr7 hG7
      have hb7 := zau hbw hG7 jH hg2))
  exact z85 2 3 rfl g2 rfl uz hr7 rfl _ rfl rfl ⟨by rw [HP.out]; rfl, hb7⟩
 ·have HP : Hid (z6m (ls s) = z6l (ls s)) := jL (by unfold z6m; rw [zb4, if_neg h1])
  have hd : decide ((2048 : Int) < (s.size : Int)) = false := jF (by omega)
  have c7 := fun W => z8j s W (by omega)
  unfold z5e at c7
  have hC := z5k (z6l (ls s)).2
  have hC1 := z5l (z6l (ls s)).2
  obtain ⟨C, hCe⟩ : ∃ C, C = (z6l (ls s)).2.cells := ⟨_, rfl⟩
  obtain ⟨n, hn⟩ : ∃ n, n = (z6l (ls s)).1 := ⟨_, rfl⟩
  rw [<- hCe] at c7 hC hC1
  rw [<- hn] at c7
  have HC := jL hCe
  have HN := jL hn
  clear h1 hCe hn
  go_enter Tryz.func32, Tryz.ntmps32
  go_wp2_with (first
   | (refine zay _ rfl 2 rfl _ rfl uz z43 ?_
      intro W1 g2 hg2 hl2 hr2 hG
      have hbw := zav (Below.refl w.heap.size w) hG jH)
   | (go_at_call 37; refine (c7 _).mono ?_; rintro e w5 ⟨rfl, hb5⟩
      replace hr2 : z80 w5 g2 uz := Row.below hr2 hb5 (Row.lt hr2)
      replace hbw := hbw.trans (hb5.mono hbw.size)
      clear hb5)
   | (refine z84 rfl rfl _ _ rfl g2 (by exact rfl) C (by exact rfl) uz hr2 rfl hC hC1 ?_
      intro w7 hr7 hG7
      have hb7 := zau hbw hG7 jH hg2))
  exact z85 2 3 rfl g2 rfl C hr7 hC _ rfl rfl ⟨by rw [HP.out, <- HC.out, <- HN.out]; rfl, hb7⟩
end

section
open Go.RowKit Go.Shelf
set_option maxHeartbeats 16000000
def uO1 : Uv := ⟨[104, 116, 116, 112], [117], hvD [97], -1, [47, 120]⟩
def uO2 : Uv := ⟨[104, 116, 116, 112], [], ⟨2, [], 2131035655, [0, 0, 0, 0, 0, 0, 0, 0]⟩, -1, [47]⟩
def oO1 : Ov := ⟨[104, 116, 116, 112], hvD [97], 80⟩
theorem zun : z6m [104, 116, 116, 112, 58, 47, 47, 117, 64, 97, 58, 56, 48, 47, 120] = (0, uO1) := by kernel_rfl
theorem zuo : z6m [104, 116, 116, 112, 58, 47, 47, 49, 50, 55, 46, 53, 46, 54, 46, 55, 47] = (0, uO2) := by kernel_rfl
theorem zup : ofL uO1 = (true, oO1) := by kernel_rfl
theorem zuq : bs (zu2 oO1) = ⟨#[104, 116, 116, 112, 58, 47, 47, 97]⟩ := by kernel_rfl
theorem zur : zu9 uO2 = true := by kernel_rfl
theorem zus : zu9 uO1 = false := by kernel_rfl
theorem zut : zu8 uO2.host = true := by kernel_rfl
theorem zuu : uO2.host.Wf := ⟨by decide, zik.1, zik.2⟩
theorem zuv : USm uO1 := ⟨⟨by decide, zik.1, zik.2⟩, by decide, by decide, by decide, by decide, by decide, by decide⟩
theorem zuw : USm uO2 := ⟨zuu, by decide, by decide, by decide, by decide, by decide, by decide⟩
theorem zux : OSm oO1 := ⟨⟨by decide, zik.1, zik.2⟩, by decide, by decide, by decide, by decide⟩
set_option maxRecDepth 20000 in
theorem zuy (hPar : zff 84) (hF : zfy 51) (hVal : zfp 43) (hCov : zd0 44) (w : World) (hw : Uw w) :
 Calls Tryz.prog 22 #[] w (Yes w) := by
 have c1 := fun W => z7d ⟨#[104, 116, 116, 112, 58, 47, 47, 117, 64, 97, 58, 56, 48, 47, 120]⟩ W
 have c2 := fun W hW => zud hPar hF uO1 zuv W hW
 have c3 := fun W => z7d ⟨#[104, 116, 116, 112, 58, 47, 47, 49, 50, 55, 46, 53, 46, 54, 46, 55, 47]⟩ W
 have c4 := fun W hW => zul hPar hF oO1 zux W hW
 have c5 := fun W hW => zvv hPar hF hVal hCov uO2 zuw W hW
 have c6 := fun W hW => zvv hPar hF hVal hCov uO1 zuv W hW
 have c7 := fun W => zum hVal hCov uO2.host W zuu (by decide)
 unfold z5e at c1 c3
 unfold zuc at c2
 simp only [show ls ⟨#[104, 116, 116, 112, 58, 47, 47, 117, 64, 97, 58, 56, 48, 47, 120]⟩ = [104, 116, 116, 112, 58, 47, 47, 117, 64, 97, 58, 56, 48, 47, 120] from rfl, zun] at c1
 simp only [show ls ⟨#[104, 116, 116, 112, 58, 47, 47, 49, 50, 55, 46, 53, 46, 54, 46, 55, 47]⟩ = [104, 116, 116, 112, 58, 47, 47, 49, 50, 55, 46, 53, 46, 54, 46, 55, 47] from rfl, zuo] at c3
 simp only [zup] at c2
 simp only [zuq] at c4
 simp only [zur] at c5
 simp only [zus] at c6
 simp only [zut] at c7
 rw [show uO2.host.val = .agg uO2.host.cells from rfl] at c7
 have hA := z87 uO1
 have hB := z87 uO2
 have hO := zv6 oO1
 have hH2 : uO2.host.cells.size = 11 := rfl
 generalize uO1.cells = A at *
 generalize uO2.cells = B at *
 generalize uO2.host.cells = H at *
 generalize oO1.cells = O at *
 have HW := jL hw
 clear hw
 go_enter Tryz.func22, Tryz.ntmps22
 go_wp2_with fail
 refine (c1 _).mono ?_
 rintro e w1 ⟨rfl, hbw⟩
 go_wp2_with (first
  | (refine zay _ rfl 1 rfl _ rfl uz z43 ?_
     intro W1 g1 hg1 hl1 hr1 hG1
     have hle1 : w.heap.size <= g1 := by have := hbw.size; omega
     replace hbw := zav hbw hG1 jH)
  | (refine z84 rfl rfl _ _ rfl g1 (by exact rfl) A (by exact rfl) uz hr1 rfl hA.sz hA.one ?_
     intro w2 hs1 hG2
     replace hbw := zau hbw hG2 jH hle1)
  | (refine z82 (by rfl) _ rfl g1 (by exact rfl) A hs1 hA.sz ?_))
 refine (c2 _ (z5d HW.out hbw)).mono ?_
 rintro e w3 ⟨rfl, hb3⟩
 replace hs1 : z80 w3 g1 A := Row.below hs1 hb3 (Row.lt hs1)
 replace hbw := hbw.trans (hb3.mono hbw.size)
 clear hb3
 go_wp2_with (first
  | (refine zay _ rfl 3 rfl _ rfl oz zvx ?_
     intro W3 g3 hg3 hl3 hr3 hG3
     have hle3 : w.heap.size <= g3 := by have := hbw.size; omega
     have hne13 : g1 ≠ g3 := by have := Row.lt hs1; omega
     replace hs1 : z80 W3 g1 A := Row.grown0 hs1 hG3
     replace hbw := zav hbw hG3 jH)
  | (refine zv4 rfl rfl _ _ rfl g3 (by exact rfl) O (by exact rfl) oz hr3 rfl hO.sz hO.one ?_
     intro w4 hs3 hG4
     replace hs1 : z80 w4 g1 A := Row.grown hs1 hG4 hne13
     replace hbw := zau hbw hG4 jH hle3))
 refine (c3 _).mono ?_
 rintro e w5 ⟨rfl, hb3⟩
 replace hs1 : z80 w5 g1 A := Row.below hs1 hb3 (Row.lt hs1)
 replace hs3 : zv0 w5 g3 O := Row.below hs3 hb3 (Row.lt hs3)
 replace hbw := hbw.trans (hb3.mono hbw.size)
 clear hb3
 go_wp2_with (first
  | (refine zay _ rfl 5 rfl _ rfl uz z43 ?_
     intro W5 g5 hg5 hl5 hr5 hG5
     have hle5 : w.heap.size <= g5 := by have := hbw.size; omega
     have hne15 : g1 ≠ g5 := by have := Row.lt hs1; omega
     have hne35 : g3 ≠ g5 := by have := Row.lt hs3; omega
     replace hs1 : z80 W5 g1 A := Row.grown0 hs1 hG5
     replace hs3 : zv0 W5 g3 O := Row.grown0 hs3 hG5
     replace hbw := zav hbw hG5 jH)
  | (refine z84 rfl rfl _ _ rfl g5 (by exact rfl) B (by exact rfl) uz hr5 rfl hB.sz hB.one ?_
     intro w6 hs5 hG6
     replace hs1 : z80 w6 g1 A := Row.grown hs1 hG6 hne15
     replace hs3 : zv0 w6 g3 O := Row.grown hs3 hG6 hne35
     replace hbw := zau hbw hG6 jH hle5)
  | (refine zv2 (by rfl) _ rfl g3 (by exact rfl) O hs3 hO.sz ?_))
 refine (c4 _ (z5d HW.out hbw)).mono ?_
 rintro e w7 ⟨rfl, hb3⟩
 replace hs1 : z80 w7 g1 A := Row.below hs1 hb3 (Row.lt hs1)
 replace hs5 : z80 w7 g5 B := Row.below hs5 hb3 (Row.lt hs5)
 replace hbw := hbw.trans (hb3.mono hbw.size)
 clear hb3
 go_wp2_with (refine z82 (by rfl) _ rfl g5 (by exact rfl) B hs5 hB.sz ?_)
 refine (c5 _ (z5d HW.out hbw)).mono ?_
 rintro e w8 ⟨rfl, hb3⟩
 replace hs1 : z80 w8 g1 A := Row.below hs1 hb3 (Row.lt hs1)
 replace hs5 : z80 w8 g5 B := Row.below hs5 hb3 (Row.lt hs5)
 replace hbw := hbw.trans (hb3.mono hbw.size)
 clear hb3
 go_wp2_with (refine z82 (by rfl) _ rfl g1 (by exact rfl) A hs1 hA.sz ?_)
 refine (c6 _ (z5d HW.out hbw)).mono ?_
 rintro e w9 ⟨rfl, hb3⟩
 replace hs5 : z80 w9 g5 B := Row.below hs5 hb3 (Row.lt hs5)
 replace hbw := hbw.trans (hb3.mono hbw.size)
 clear hb3
 go_wp2_with (refine z83 (by rfl) _ rfl g5 (by exact rfl) B hs5 H hB.hh hH2 ?_)
 refine (c7 _).mono ?_
 rintro e wx ⟨rfl, hb3⟩
 replace hbw := hbw.trans (hb3.mono hbw.size)
 go_wp2_with fail
 go_ret
 exact ⟨rfl, hbw⟩
end

section
open Go.RowKit Go.Shelf
set_option maxHeartbeats 16000000
theorem z5z {u : Uv} (hi : z53 u.scheme = true) : (bs u.scheme = ⟨#[104, 116, 116, 112]⟩ /\ bs (upU u).scheme = ⟨#[104, 116, 116, 112, 115]⟩) \/ (bs u.scheme = ⟨#[119, 115]⟩ /\ bs (upU u).scheme = ⟨#[119, 115, 115]⟩) := by
 have e : (upU u).scheme = z56 u.scheme := by unfold upU; rw [if_pos hi]
 rw [e]
 rcases z7a hi with h | h
 ·left; rw [h]; exact ⟨rfl, rfl⟩
 ·right; rw [h]; exact ⟨rfl, rfl⟩
end

section
open Go.RowKit Go.Shelf
set_option maxHeartbeats 16000000
theorem z8p : Tryz.prog.underlying 50 = some (.map 9 9) := Tryz.underlying50
theorem z8q {W : World} {B c : Nat} {es : Array MapEntry} (k v : ByteArray) (h : W.heap[B]? = some (.map es c)) (hn : Instr.findNow .string (.string k) es.toList 0 = some none) :
 (Instr.mapUpdate 50 (.map (some B)) (.string k) (.string v)).run Tryz.prog W = .ok () { W with heap := W.heap.setIfInBounds B (.map (es.push { key := .string k, val := .string v, born := c }) (c + 1)) } := by
 have h1 : (getObj B).run Tryz.prog W = .ok (.map es c) W := by simp [getObj, Sem.run, h]
 have h2 : ∀ o, (setObj B o).run Tryz.prog W = .ok () { W with heap := W.heap.setIfInBounds B o } := fun o => by simp [setObj, Sem.run, h]
 have h3 : ∀ e, (Instr.checkKey e 10000 9 (.string k)).run Tryz.prog W = .ok () W := fun e => by
  show (Instr.checkKey e (9999 + 1) 9 (.string k)).run Tryz.prog W = _
  unfold Instr.checkKey
  simp [run_underlying z3e, Result.andThen]
 simp [Instr.mapUpdate, run_underlying z8p, h1, h3, Instr.findKey, run_underlying z3e, hn, h2, Result.andThen]
theorem z8r {W : World} {B c i : Nat} {es : Array MapEntry} (k v : ByteArray) (h : W.heap[B]? = some (.map es c)) (hn : Instr.findNow .string (.string k) es.toList 0 = some (some (i, .string v))) :
 (Instr.lookup 50 (.map (some B)) (.string k) false).run Tryz.prog W = .ok (.string v) W := by
 have h1 : (getObj B).run Tryz.prog W = .ok (.map es c) W := by simp [getObj, Sem.run, h]
 have h3 : ∀ e, (Instr.checkKey e 10000 9 (.string k)).run Tryz.prog W = .ok () W := fun e => by
  show (Instr.checkKey e (9999 + 1) 9 (.string k)).run Tryz.prog W = _
  unfold Instr.checkKey
  simp [run_underlying z3e, Result.andThen]
 simp [Instr.lookup, run_underlying z8p, h1, h3, Instr.findKey, run_underlying z3e, hn, Result.andThen]
theorem z8s (w : World) : ∃ W1 W2 : World, (Instr.mapUpdate 50 (.map (some w.heap.size)) (.string ⟨#[104, 116, 116, 112]⟩) (.string ⟨#[104, 116, 116, 112, 115]⟩)).run Tryz.prog (w.alloc (.map #[] 0)) = .ok () W1 /\
 (Instr.mapUpdate 50 (.map (some w.heap.size)) (.string ⟨#[119, 115]⟩) (.string ⟨#[119, 115, 115]⟩)).run Tryz.prog W1 = .ok () W2 /\
 (Instr.lookup 50 (.map (some w.heap.size)) (.string ⟨#[104, 116, 116, 112]⟩) false).run Tryz.prog W2 = .ok (.string ⟨#[104, 116, 116, 112, 115]⟩) W2 /\
 (Instr.lookup 50 (.map (some w.heap.size)) (.string ⟨#[119, 115]⟩) false).run Tryz.prog W2 = .ok (.string ⟨#[119, 115, 115]⟩) W2 /\ Below w.heap.size w W2 := by
 have h0 : (w.alloc (.map #[] 0)).heap[w.heap.size]? = some (.map #[] 0) := heap_alloc_last w _
 have hs : ∀ (W : World) (o : Obj), w.heap.size < W.heap.size -> (W.heap.setIfInBounds w.heap.size o)[w.heap.size]? = some o := fun W o h => by
  rw [Array.getElem?_setIfInBounds_self_of_lt h]
 have z0 : w.heap.size < (w.alloc (.map #[] 0)).heap.size := by simp
 have u1 := z8q ⟨#[104, 116, 116, 112]⟩ ⟨#[104, 116, 116, 112, 115]⟩ h0 (by rfl)
 have h1 := hs (w.alloc (.map #[] 0)) (.map (#[].push { key := .string ⟨#[104, 116, 116, 112]⟩, val := .string ⟨#[104, 116, 116, 112, 115]⟩, born := 0 }) (0 + 1)) z0
 have u2 := z8q (W := { w.alloc (.map #[] 0) with heap := (w.alloc (.map #[] 0)).heap.setIfInBounds w.heap.size (.map (#[].push { key := .string ⟨#[104, 116, 116, 112]⟩, val := .string ⟨#[104, 116, 116, 112, 115]⟩, born := 0 }) (0 + 1)) }) ⟨#[119, 115]⟩ ⟨#[119, 115, 115]⟩ h1 (by rfl)
 have h2 := hs { w.alloc (.map #[] 0) with heap := (w.alloc (.map #[] 0)).heap.setIfInBounds w.heap.size (.map (#[].push { key := .string ⟨#[104, 116, 116, 112]⟩, val := .string ⟨#[104, 116, 116, 112, 115]⟩, born := 0 }) (0 + 1)) } (.map ((#[].push { key := .string ⟨#[104, 116, 116, 112]⟩, val := .string ⟨#[104, 116, 116, 112, 115]⟩, born := 0 }).push { key := .string ⟨#[119, 115]⟩, val := .string ⟨#[119, 115, 115]⟩, born := 0 + 1 }) (0 + 1 + 1)) (by simp)
 refine ⟨_, _, u1, u2, z8r _ _ h2 (by rfl), z8r _ _ h2 (by rfl), ⟨rfl, rfl, rfl, by simp, fun i hi => ?_⟩⟩
 have hne : w.heap.size ≠ i := by omega
 show (((w.alloc (.map #[] 0)).heap.setIfInBounds w.heap.size _).setIfInBounds w.heap.size _)[i]? = _
 rw [Array.getElem?_setIfInBounds_ne hne, Array.getElem?_setIfInBounds_ne hne]
 show (w.heap.push _)[i]? = _
 rw [Array.getElem?_push_lt hi, Array.getElem?_eq_getElem hi]
set_option maxRecDepth 20000 in
theorem z8t (u : Uv) (w : World) :
 Calls Tryz.prog 21 #[.agg u.cells] w fun e w' => e = .returned (.agg (upU u).cells) /\ Below w.heap.size w w' := by
 have hC := z87 u
 have c1 := fun W => z70 u W
 cases hi : z53 u.scheme with
 | false =>
   rw [z5v hi]
   rw [hi] at c1
   generalize u.cells = C at *
   clear hi
   go_enter Tryz.func21, Tryz.ntmps21
   go_wp2_with (first
    | (refine zax _ rfl 1 rfl _ _ rfl _ C (by exact rfl) (by exact rfl) ?_; intro W1 g1 hg1 hl1 hR1 hG1; have hbw := zav (Below.refl w.heap.size w) hG1 jH)
    | (refine zay _ rfl 2 rfl _ rfl uz z43 ?_
       intro W2 g2 hg2 hl2 hR2 hG2
       have h2 : w.heap.size <= g2 := by have := hbw.size; omega
       replace hR1 : z80 W2 g1 C := Row.grown0 hR1 hG2
       replace hR2 : z80 W2 g2 uz := hR2
       replace hbw := zav hbw hG2 jH)
    | (refine z82 (by rfl) _ rfl g1 (by exact rfl) C hR1 hC.sz ?_)
    | (go_at_call 17; refine (c1 _).mono ?_; rintro e w5 ⟨rfl, hb5⟩
       replace hR1 : z80 w5 g1 C := Row.below hR1 hb5 (Row.lt hR1)
       replace hR2 : z80 w5 g2 uz := Row.below hR2 hb5 (Row.lt hR2)
       replace hbw := hbw.trans (hb5.mono hbw.size)
       clear hb5)
    | (refine z84 rfl rfl _ _ rfl g2 (by exact rfl) C (by exact rfl) uz hR2 rfl hC.sz hC.one ?_
       intro w8 hr8 hG8
       have hb8 := zau hbw hG8 jH h2))
   exact z86 2 rfl g2 rfl C hr8 hC.sz rfl ⟨rfl, hb8⟩
 | true =>
   rw [hi] at c1
   have hT := z5z hi
   have hU1 := fun h => z5w (u := u) hi h
   have hU2 := fun h => z5x (u := u) hi h
   obtain ⟨p, hp⟩ : ∃ p, p = u.port := ⟨_, rfl⟩
   have e : bs (upU u).scheme = bs (z56 u.scheme) := by unfold upU; rw [if_pos hi]
   rw [e] at hT
   rw [<- hp] at hC hU1 hU2
   generalize (upU u).cells = D at *
   generalize u.cells = C at *
   generalize u.host.cells = H at *
   generalize bs u.scheme = S at *
   generalize bs (z56 u.scheme) = Z at *
   clear hi hp e
   have HU1 := jL hU1
   have HU2 := jL hU2
   clear hU1 hU2
   rcases hT with ⟨rfl, rfl⟩ | ⟨rfl, rfl⟩
   ·go_enter Tryz.func21, Tryz.ntmps21
    go_upto_region 3 with (first
     | (refine zax _ rfl 1 rfl _ _ rfl _ C (by exact rfl) (by exact rfl) ?_; intro W1 g1 hg1 hl1 hR1 hG1; have hbw := zav (Below.refl w.heap.size w) hG1 jH)
     | (refine zay _ rfl 2 rfl _ rfl uz z43 ?_
        intro W2 g2 hg2 hl2 hR2 hG2
        have h2 : w.heap.size <= g2 := by have := hbw.size; omega
        have hne : g2 ≠ g1 := by omega
        replace hR1 : z80 W2 g1 C := Row.grown0 hR1 hG2
        replace hR2 : z80 W2 g2 uz := hR2
        replace hbw := zav hbw hG2 jH)
     | (refine z82 (by rfl) _ rfl g1 (by exact rfl) C hR1 hC.sz ?_)
     | (go_at_call 17; refine (c1 _).mono ?_; rintro e w5 ⟨rfl, hb5⟩
        replace hR1 : z80 w5 g1 C := Row.below hR1 hb5 (Row.lt hR1)
        replace hR2 : z80 w5 g2 uz := Row.below hR2 hb5 (Row.lt hR2)
        replace hbw := hbw.trans (hb5.mono hbw.size)
        clear hb5))
    clear hG1 hG2 hl1 hl2
    obtain ⟨W1m, W2m, r1, r2, r3, r4, hbm⟩ := z8s w5
    have hmm := @run_makeMap Tryz.prog
    replace hR1 : z80 W2m g1 C := Row.below hR1 hbm (Row.lt hR1)
    replace hR2 : z80 W2m g2 uz := Row.below hR2 hbm (Row.lt hR2)
    replace hbw := hbw.trans (hbm.mono hbw.size)
    clear hbm
    obtain ⟨e0, e1, e3, e13, e14⟩ := hC.cell hR1
    have fz := Row.frozen9 hR1 0
    go_upto_region 4 with fail
    clear e0 e1 e3 e13 e14 fz r1 r2 r3 r4 hmm
    replace hR1 : z80 (W2m.setCell ⟨g1, 0, none⟩ (.string ⟨#[104, 116, 116, 112, 115]⟩)) g1 (C.setIfInBounds 0 (.string ⟨#[104, 116, 116, 112, 115]⟩)) := Row.set9 hR1
    replace hR2 : z80 (W2m.setCell ⟨g1, 0, none⟩ (.string ⟨#[104, 116, 116, 112, 115]⟩)) g2 uz := Row.set_other9 hR2 hne
    replace hbw := hbw.setCell (p := ⟨g1, 0, none⟩) hg1 (.string ⟨#[104, 116, 116, 112, 115]⟩)
    generalize W2m.setCell ⟨g1, 0, none⟩ (.string ⟨#[104, 116, 116, 112, 115]⟩) = w9 at *
    have z1 : (C.setIfInBounds 0 (.string ⟨#[104, 116, 116, 112, 115]⟩)).size = 15 := by rw [Array.size_setIfInBounds]; exact hC.sz
    have o1 : (C.setIfInBounds 0 (.string ⟨#[104, 116, 116, 112, 115]⟩)).all (·.oneCell') = true := z5y hC.one rfl
    have e13 := Row.at9 hR1 (show (C.setIfInBounds 0 (.string ⟨#[104, 116, 116, 112, 115]⟩))[13]? = some (.int .i64 p) by rw [Array.getElem?_setIfInBounds_ne (by decide)]; exact hC.c13)
    by_cases hp : p = 443
    ·have hq : (p == 443) = true := by rw [hp]; rfl
     have HD := jL (HU1.out hp)
     generalize C.setIfInBounds 0 (.string ⟨#[104, 116, 116, 112, 115]⟩) = C1 at *
     have z2 : (C1.setIfInBounds 13 (.int .i64 (-1))).size = 15 := by rw [Array.size_setIfInBounds]; exact z1
     have o2 : (C1.setIfInBounds 13 (.int .i64 (-1))).all (·.oneCell') = true := z5y o1 rfl
     clear hp
     go_upto_region 5 with fail
     clear e13
     go_wp2_with (first
      | (refine za1 _ rfl rfl _ _ _ rfl g1 13 (by exact rfl) _ rfl rfl _ C1 hR1 (by rw [z1]; decide) (by exact z8z) ?_
         intro w11 hr11 hG11
         replace hR2 : z80 w11 g2 uz := Row.grown hR2 hG11 hne
         replace hbw := zau hbw hG11 jH hg1)
      | (refine z82 (by rfl) _ rfl g1 (by exact rfl) _ hr11 z2 ?_)
      | (refine z84 rfl rfl _ _ rfl g2 (by exact rfl) (C1.setIfInBounds 13 (.int .i64 (-1))) (by exact rfl) uz hR2 rfl z2 o2 ?_
         intro w12 hr12 hG12
         have hb12 := zau hbw hG12 jH h2))
     exact z86 2 rfl g2 rfl _ hr12 z2 rfl ⟨by rw [HD.out], hb12⟩
    ·have hq : (p == 443) = false := by rw [beq_eq_false_iff_ne]; exact hp
     have HD := jL (HU2.out hp)
     generalize C.setIfInBounds 0 (.string ⟨#[104, 116, 116, 112, 115]⟩) = C1 at *
     clear hp
     go_wp2_with (first
      | (refine z82 (by rfl) _ rfl g1 (by exact rfl) C1 hR1 z1 ?_)
      | (refine z84 rfl rfl _ _ rfl g2 (by exact rfl) C1 (by exact rfl) uz hR2 rfl z1 o1 ?_
         intro w12 hr12 hG12
         have hb12 := zau hbw hG12 jH h2))
     exact z86 2 rfl g2 rfl C1 hr12 z1 rfl ⟨by rw [HD.out], hb12⟩
   ·go_enter Tryz.func21, Tryz.ntmps21
    go_upto_region 3 with (first
     | (refine zax _ rfl 1 rfl _ _ rfl _ C (by exact rfl) (by exact rfl) ?_; intro W1 g1 hg1 hl1 hR1 hG1; have hbw := zav (Below.refl w.heap.size w) hG1 jH)
     | (refine zay _ rfl 2 rfl _ rfl uz z43 ?_
        intro W2 g2 hg2 hl2 hR2 hG2
        have h2 : w.heap.size <= g2 := by have := hbw.size; omega
        have hne : g2 ≠ g1 := by omega
        replace hR1 : z80 W2 g1 C := Row.grown0 hR1 hG2
        replace hR2 : z80 W2 g2 uz := hR2
        replace hbw := zav hbw hG2 jH)
     | (refine z82 (by rfl) _ rfl g1 (by exact rfl) C hR1 hC.sz ?_)
     | (go_at_call 17; refine (c1 _).mono ?_; rintro e w5 ⟨rfl, hb5⟩
        replace hR1 : z80 w5 g1 C := Row.below hR1 hb5 (Row.lt hR1)
        replace hR2 : z80 w5 g2 uz := Row.below hR2 hb5 (Row.lt hR2)
        replace hbw := hbw.trans (hb5.mono hbw.size)
        clear hb5))
    clear hG1 hG2 hl1 hl2
    obtain ⟨W1m, W2m, r1, r2, r3, r4, hbm⟩ := z8s w5
    have hmm := @run_makeMap Tryz.prog
    replace hR1 : z80 W2m g1 C := Row.below hR1 hbm (Row.lt hR1)
    replace hR2 : z80 W2m g2 uz := Row.below hR2 hbm (Row.lt hR2)
    replace hbw := hbw.trans (hbm.mono hbw.size)
    clear hbm
    obtain ⟨e0, e1, e3, e13, e14⟩ := hC.cell hR1
    have fz := Row.frozen9 hR1 0
    go_upto_region 4 with fail
    clear e0 e1 e3 e13 e14 fz r1 r2 r3 r4 hmm
    replace hR1 : z80 (W2m.setCell ⟨g1, 0, none⟩ (.string ⟨#[119, 115, 115]⟩)) g1 (C.setIfInBounds 0 (.string ⟨#[119, 115, 115]⟩)) := Row.set9 hR1
    replace hR2 : z80 (W2m.setCell ⟨g1, 0, none⟩ (.string ⟨#[119, 115, 115]⟩)) g2 uz := Row.set_other9 hR2 hne
    replace hbw := hbw.setCell (p := ⟨g1, 0, none⟩) hg1 (.string ⟨#[119, 115, 115]⟩)
    generalize W2m.setCell ⟨g1, 0, none⟩ (.string ⟨#[119, 115, 115]⟩) = w9 at *
    have z1 : (C.setIfInBounds 0 (.string ⟨#[119, 115, 115]⟩)).size = 15 := by rw [Array.size_setIfInBounds]; exact hC.sz
    have o1 : (C.setIfInBounds 0 (.string ⟨#[119, 115, 115]⟩)).all (·.oneCell') = true := z5y hC.one rfl
    have e13 := Row.at9 hR1 (show (C.setIfInBounds 0 (.string ⟨#[119, 115, 115]⟩))[13]? = some (.int .i64 p) by rw [Array.getElem?_setIfInBounds_ne (by decide)]; exact hC.c13)
    by_cases hp : p = 443
    ·have hq : (p == 443) = true := by rw [hp]; rfl
     have HD := jL (HU1.out hp)
     generalize C.setIfInBounds 0 (.string ⟨#[119, 115, 115]⟩) = C1 at *
     have z2 : (C1.setIfInBounds 13 (.int .i64 (-1))).size = 15 := by rw [Array.size_setIfInBounds]; exact z1
     have o2 : (C1.setIfInBounds 13 (.int .i64 (-1))).all (·.oneCell') = true := z5y o1 rfl
     clear hp
     go_upto_region 5 with fail
     clear e13
     go_wp2_with (first
      | (refine za1 _ rfl rfl _ _ _ rfl g1 13 (by exact rfl) _ rfl rfl _ C1 hR1 (by rw [z1]; decide) (by exact z8z) ?_
         intro w11 hr11 hG11
         replace hR2 : z80 w11 g2 uz := Row.grown hR2 hG11 hne
         replace hbw := zau hbw hG11 jH hg1)
      | (refine z82 (by rfl) _ rfl g1 (by exact rfl) _ hr11 z2 ?_)
      | (refine z84 rfl rfl _ _ rfl g2 (by exact rfl) (C1.setIfInBounds 13 (.int .i64 (-1))) (by exact rfl) uz hR2 rfl z2 o2 ?_
         intro w12 hr12 hG12
         have hb12 := zau hbw hG12 jH h2))
     exact z86 2 rfl g2 rfl _ hr12 z2 rfl ⟨by rw [HD.out], hb12⟩
    ·have hq : (p == 443) = false := by rw [beq_eq_false_iff_ne]; exact hp
     have HD := jL (HU2.out hp)
     generalize C.setIfInBounds 0 (.string ⟨#[119, 115, 115]⟩) = C1 at *
     clear hp
     go_wp2_with (first
      | (refine z82 (by rfl) _ rfl g1 (by exact rfl) C1 hR1 z1 ?_)
      | (refine z84 rfl rfl _ _ rfl g2 (by exact rfl) C1 (by exact rfl) uz hR2 rfl z1 o1 ?_
         intro w12 hr12 hG12
         have hb12 := zau hbw hG12 jH h2))
     exact z86 2 rfl g2 rfl C1 hr12 z1 rfl ⟨by rw [HD.out], hb12⟩
end

section
open Go.RowKit Go.Shelf
set_option maxHeartbeats 16000000
theorem zwb {u : Uv} (h : UGood u) (hs : z55 u.scheme = true) : zu9 (upU u) = true := by
 have hg := z74 (z7c h)
 have e : (upU u).scheme = z51 \/ (upU u).scheme = z52 := by
  unfold upU
  split
  ·rename_i hi
   rcases z7a hi with h1 | h1
   ·left; show z56 u.scheme = _; rw [h1]; decide +kernel
   ·right; show z56 u.scheme = _; rw [h1]; decide +kernel
  ·rename_i hi
   rcases zvd hs with h1 | h1 | h1 | h1
   ·rw [h1] at hi; exact absurd (by decide +kernel) hi
   ·rw [h1] at hi; exact absurd (by decide +kernel) hi
   ·exact .inl h1
   ·exact .inr h1
 unfold zu9
 rw [hg]
 rcases e with e | e <;> rw [e] <;> rfl
theorem zwc {u : Uv} (h : UGood u) (hi : z53 u.scheme = true) : zu9 u = zu8 u.host := by
 have hg := z74 h
 unfold zu9
 rw [hg]
 rcases z7a hi with e | e <;> rw [e] <;> rfl
set_option maxRecDepth 20000 in
theorem walkOrUp (hPar : zff 84) (hF : zfy 51) (hVal : zfp 43) (hCov : zd0 44) (s : ByteArray) (w : World) (_hsz : s.size <= maxLen) (hw : Uw w) :
 Calls Tryz.prog 7 #[.string s] w (Yes w) := by
 have cw := fun W hW => zuy hPar hF hVal hCov W hW
 unfold Yes at cw
 have HW := jL hw
 by_cases h1 : 1500 < s.size
 ·have hd : decide ((1500 : Int) < (s.size : Int)) = true := jT (by omega)
  clear h1 hw
  go_enter Tryz.func7, Tryz.ntmps7
  go_wp2_with (go_at_call 22; refine (cw _ HW.out).mono ?_; rintro e w1 ⟨rfl, hb⟩)
  go_ret
  exact ⟨rfl, hb⟩
 have hd : decide ((1500 : Int) < (s.size : Int)) = false := jF (by omega)
 have c1 := fun W => z7d s W
 unfold z5e at c1
 have hsm := z75 (ls s)
 have hgood := z76 (l := ls s)
 have hC := z87 (z6m (ls s)).2
 have hH2 : (z6m (ls s)).2.host.cells.size = 11 := rfl
 have c2 := fun W => z7z (bs (z6m (ls s)).2.scheme) W
 rw [zb0] at c2
 by_cases hn : (z6m (ls s)).1 = 0
 ·have hg := hgood hn
  rw [hn] at c1
  cases hsp : z55 (z6m (ls s)).2.scheme with
  | false =>
    rw [hsp] at c2
    clear hgood hn hg hsm hsp
    generalize (z6m (ls s)).2.cells = C at *
    generalize (z6m (ls s)).2.host.cells = H at *
    generalize bs (z6m (ls s)).2.scheme = S at *
    clear h1 hw
    go_enter Tryz.func7, Tryz.ntmps7
    go_wp2_with fail
    refine (c1 _).mono ?_
    rintro e w1 ⟨rfl, hbw⟩
    go_wp2_with (first
     | (refine zay _ rfl 3 rfl _ rfl uz z43 ?_
        intro W3 g3 hg3 hl3 hr3 hG3
        have hle3 : w.heap.size <= g3 := by have := hbw.size; omega
        replace hbw := zav hbw hG3 jH)
     | (refine z84 rfl rfl _ _ rfl g3 (by exact rfl) C (by exact rfl) uz hr3 rfl hC.sz hC.one ?_
        intro w4 hs3 hG4
        replace hbw := zau hbw hG4 jH hle3
        obtain ⟨e0, e1, e3, e13, e14⟩ := hC.cell hs3)
     | (go_at_call 15; refine (c2 _).mono ?_; rintro e w5 ⟨rfl, rfl⟩)
     | (go_at_call 22; refine (cw _ (z5d HW.out hbw)).mono ?_; rintro e wA ⟨rfl, hb5⟩
        replace hbw := hbw.trans (hb5.mono hbw.size)))
    go_ret
    exact ⟨rfl, hbw⟩
  | true =>
    rw [hsp] at c2
    have c3 := fun W => z8t (z6m (ls s)).2 W
    have c7 := fun W hW => zvv hPar hF hVal hCov (upU (z6m (ls s)).2) (z8o hsm) W hW
    rw [zwb hg hsp] at c7
    have c4 := fun W => z70 (z6m (ls s)).2 W
    have c5 := fun W hW => zvv hPar hF hVal hCov (z6m (ls s)).2 hsm W hW
    have c6 := fun W => zum hVal hCov (z6m (ls s)).2.host W hsm.wf (by have := hsm.hn; omega)
    rw [show (z6m (ls s)).2.host.val = .agg (z6m (ls s)).2.host.cells from rfl] at c6
    have hit := zwc hg
    generalize (upU (z6m (ls s)).2).cells = D at *
    generalize (z6m (ls s)).2.cells = C at *
    generalize (z6m (ls s)).2.host.cells = H at *
    generalize bs (z6m (ls s)).2.scheme = S at *
    clear hgood hn hg hsm hsp
    cases hi : z53 (z6m (ls s)).2.scheme with
    | true =>
      rw [hi] at c4
      rw [hit hi] at c5
      clear hit hi
      generalize zu8 (z6m (ls s)).2.host = q at *
      have hqq : (q == q) = true := by simp
      clear h1 hw
      go_enter Tryz.func7, Tryz.ntmps7
      go_wp2_with fail
      refine (c1 _).mono ?_
      rintro e w1 ⟨rfl, hbw⟩
      go_upto_region 8 with (first
       | (refine zay _ rfl 3 rfl _ rfl uz z43 ?_
          intro W3 g3 hg3 hl3 hr3 hG3
          have hle3 : w.heap.size <= g3 := by have := hbw.size; omega
          replace hbw := zav hbw hG3 jH)
       | (refine z84 rfl rfl _ _ rfl g3 (by exact rfl) C (by exact rfl) uz hr3 rfl hC.sz hC.one ?_
          intro w4 hs3 hG4
          replace hbw := zau hbw hG4 jH hle3
          obtain ⟨e0, e1, e3, e13, e14⟩ := hC.cell hs3)
       | (go_at_call 15; refine (c2 _).mono ?_; rintro e w5 ⟨rfl, rfl⟩)
       | (refine z82 (by rfl) _ rfl g3 (by exact rfl) C hs3 hC.sz ?_)
       | (go_at_call 21; refine (c3 _).mono ?_; rintro e w6 ⟨rfl, hb5⟩
          clear e0 e1 e3 e13 e14
          replace hs3 : z80 w6 g3 C := Row.below hs3 hb5 (Row.lt hs3)
          replace hbw := hbw.trans (hb5.mono hbw.size)
          clear hb5
          obtain ⟨e0, e1, e3, e13, e14⟩ := hC.cell hs3)
       | (go_at_call 27; refine (c7 _ (z5d HW.out hbw)).mono ?_; rintro e wd0 ⟨rfl, hb5⟩
          clear e0 e1 e3 e13 e14
          have hr3 : z80 wd0 g3 C := Row.below hs3 hb5 (Row.lt hs3)
          replace hbw := hbw.trans (hb5.mono hbw.size)
          clear hb5
          obtain ⟨e0, e1, e3, e13, e14⟩ := hC.cell hr3))
      clear hs3
      clear e0 e1 e3 e13 e14
      replace hr3 : z80 wd0.drew g3 C := hr3
      replace hbw := hbw.drew
      refine wp_region_held_drew (S := fun W => z80 W g3 C) (by kernel_rfl) hr3 (fun _ => ?_)
      generalize wd0.drew = wd at *
      refine wpAnyH_take (i := 0) (v := .agg C) rfl (by kernel_rfl) (by kernel_rfl) (by kernel_rfl) (fun _ _ _ h => h) (z8l _ rfl (by rfl) g3 (by exact rfl) C (fun W hW => hW) hC.sz) hr3 ?_
      try simp only [Act.put, List.getElem_toArray, List.getElem_cons_zero, jqd, jqe, jqf]
      refine wpAnyH_ready (rs := [1]) (by kernel_rfl) (by simp) (AllReadyH.cons rfl (fun K hK => ?_) AllReadyH.nil)
      go_simp
      go_wp2_with fail
      refine (c4 _).mono ?_
      rintro e wA ⟨rfl, hbA⟩
      replace hr3 : z80 wA g3 C := Row.below hr3 hbA (Row.lt hr3)
      replace hbw := hbw.trans (hbA.mono hbw.size)
      clear hbA
      refine hK.out _ _ hr3 (fun _ => ?_)
      clear hK K
      try simp only [Act.put, List.getElem_toArray, List.getElem_cons_zero, List.getElem_cons_succ, jqd, jqe, jqf]
      refine wpAnyH_take (i := 2) (v := .bool false) rfl (by kernel_rfl) (by kernel_rfl) (by kernel_rfl) (fun _ _ _ h => h) (Or.inl ⟨by rfl, fun W hW => by go_simp; try (with_reducible rfl)⟩) hr3 ?_
      try simp only [Act.put, List.getElem_toArray, List.getElem_cons_zero, List.getElem_cons_succ, jqd, jqe, jqf]
      refine wpAnyH_take (i := 3) (v := .bool false) rfl (by kernel_rfl) (by kernel_rfl) (by kernel_rfl) (fun _ _ _ h => h) (Or.inl ⟨by rfl, fun W hW => by go_simp; try (with_reducible rfl)⟩) hr3 ?_
      try simp only [Act.put, List.getElem_toArray, List.getElem_cons_zero, List.getElem_cons_succ, jqd, jqe, jqf]
      refine wpAnyH_take (i := 4) (v := .agg C) rfl (by kernel_rfl) (by kernel_rfl) (by kernel_rfl) (fun _ _ _ h => h) (z8l _ rfl (by rfl) g3 (by exact rfl) C (fun W hW => hW) hC.sz) hr3 ?_
      try simp only [Act.put, List.getElem_toArray, List.getElem_cons_zero, List.getElem_cons_succ, jqd, jqe, jqf]
      refine wpAnyH_take (i := 6) (v := .pointer (some ⟨g3, 2, none⟩)) rfl (by kernel_rfl) (by kernel_rfl) (by kernel_rfl) (fun _ _ _ h => h) (Or.inl ⟨by rfl, fun W hW => by go_simp; try (with_reducible rfl)⟩) hr3 ?_
      try simp only [Act.put, List.getElem_toArray, List.getElem_cons_zero, List.getElem_cons_succ, jqd, jqe, jqf]
      refine wpAnyH_take (i := 7) (v := .agg H) rfl (by kernel_rfl) (by kernel_rfl) (by kernel_rfl) (fun _ _ _ h => h) (z8m _ rfl (by rfl) g3 (by exact rfl) C H (fun W hW => hW) hC.hh hH2) hr3 ?_
      try simp only [Act.put, List.getElem_toArray, List.getElem_cons_zero, List.getElem_cons_succ, jqd, jqe, jqf]
      refine wpAnyH_ready (rs := [5]) (by kernel_rfl) (by simp) (AllReadyH.cons rfl (fun K hK => ?_) AllReadyH.nil)
      go_simp
      go_wp2_with fail
      refine (c5 _ (z5d HW.out hbw)).mono ?_
      rintro e wA ⟨rfl, hbA⟩
      replace hr3 : z80 wA g3 C := Row.below hr3 hbA (Row.lt hr3)
      replace hbw := hbw.trans (hbA.mono hbw.size)
      clear hbA
      refine hK.out _ _ hr3 (fun _ => ?_)
      clear hK K
      try simp only [Act.put, List.getElem_toArray, List.getElem_cons_zero, List.getElem_cons_succ, jqd, jqe, jqf]
      refine wpAnyH_ready (rs := [8]) (by kernel_rfl) (by simp) (AllReadyH.cons rfl (fun K hK => ?_) AllReadyH.nil)
      go_simp
      go_wp2_with fail
      refine (c6 _).mono ?_
      rintro e wA ⟨rfl, hbA⟩
      replace hr3 : z80 wA g3 C := Row.below hr3 hbA (Row.lt hr3)
      replace hbw := hbw.trans (hbA.mono hbw.size)
      clear hbA
      refine hK.out _ _ hr3 (fun _ => ?_)
      clear hK K
      try simp only [Act.put, List.getElem_toArray, List.getElem_cons_zero, List.getElem_cons_succ, jqd, jqe, jqf]
      refine wpAnyH_take (i := 9) (v := .bool true) rfl (by kernel_rfl) (by kernel_rfl) (by kernel_rfl) (fun _ _ _ h => h) (Or.inl ⟨by rfl, fun W hW => by go_simp; try (with_reducible rfl)⟩) hr3 ?_
      try simp only [Act.put, List.getElem_toArray, List.getElem_cons_zero, List.getElem_cons_succ, jqd, jqe, jqf]
      refine wpAnyH_take (i := 10) (v := .bool true) rfl (by kernel_rfl) (by kernel_rfl) (by kernel_rfl) (fun _ _ _ h => h) (Or.inl ⟨by rfl, fun W hW => by go_simp; try (with_reducible rfl)⟩) hr3 ?_
      try simp only [Act.put, List.getElem_toArray, List.getElem_cons_zero, List.getElem_cons_succ, jqd, jqe, jqf]
      refine wpAnyH_take (i := 11) (v := .bool true) rfl (by kernel_rfl) (by kernel_rfl) (by kernel_rfl) (fun _ _ _ h => h) (Or.inl ⟨by rfl, fun W hW => by go_simp; try (with_reducible rfl)⟩) hr3 ?_
      try simp only [Act.put, List.getElem_toArray, List.getElem_cons_zero, List.getElem_cons_succ, jqd, jqe, jqf]
      refine wpAnyH_ready (rs := [12]) (by kernel_rfl) (by simp) (AllReadyH.cons rfl (fun K hK => ?_) AllReadyH.nil)
      go_simp
      go_wp2_with fail
      refine (cw _ (z5d HW.out hbw)).mono ?_
      rintro e wA ⟨rfl, hbA⟩
      replace hr3 : z80 wA g3 C := Row.below hr3 hbA (Row.lt hr3)
      replace hbw := hbw.trans (hbA.mono hbw.size)
      clear hbA
      refine hK.out _ _ hr3 (fun _ => ?_)
      clear hK K
      try simp only [Act.put, List.getElem_toArray, List.getElem_cons_zero, List.getElem_cons_succ, jqd, jqe, jqf]
      refine wpAnyH_take (i := 13) (v := .bool true) rfl (by kernel_rfl) (by kernel_rfl) (by kernel_rfl) (fun _ _ _ h => h) (Or.inl ⟨by rfl, fun W hW => by go_simp; try (with_reducible rfl)⟩) hr3 ?_
      try simp only [Act.put, List.getElem_toArray, List.getElem_cons_zero, List.getElem_cons_succ, jqd, jqe, jqf]
      refine wpAnyH_ready (rs := [14]) (by kernel_rfl) (by simp) (AllReadyH.cons rfl (fun K hK => ?_) AllReadyH.nil)
      go_simp
      refine hK.out _ _ hr3 (fun _ => ?_)
      clear hK K
      try simp only [Act.put, List.getElem_toArray, List.getElem_cons_zero, List.getElem_cons_succ, jqd, jqe, jqf]
      refine wpAnyH_done (by kernel_rfl) ?_ _
      go_wp2
      go_ret
      exact ⟨rfl, hbw⟩
    | false =>
      rw [hi] at c4
      clear hit hi c5 c6
      clear h1 hw
      go_enter Tryz.func7, Tryz.ntmps7
      go_wp2_with fail
      refine (c1 _).mono ?_
      rintro e w1 ⟨rfl, hbw⟩
      go_upto_region 8 with (first
       | (refine zay _ rfl 3 rfl _ rfl uz z43 ?_
          intro W3 g3 hg3 hl3 hr3 hG3
          have hle3 : w.heap.size <= g3 := by have := hbw.size; omega
          replace hbw := zav hbw hG3 jH)
       | (refine z84 rfl rfl _ _ rfl g3 (by exact rfl) C (by exact rfl) uz hr3 rfl hC.sz hC.one ?_
          intro w4 hs3 hG4
          replace hbw := zau hbw hG4 jH hle3
          obtain ⟨e0, e1, e3, e13, e14⟩ := hC.cell hs3)
       | (go_at_call 15; refine (c2 _).mono ?_; rintro e w5 ⟨rfl, rfl⟩)
       | (refine z82 (by rfl) _ rfl g3 (by exact rfl) C hs3 hC.sz ?_)
       | (go_at_call 21; refine (c3 _).mono ?_; rintro e w6 ⟨rfl, hb5⟩
          clear e0 e1 e3 e13 e14
          replace hs3 : z80 w6 g3 C := Row.below hs3 hb5 (Row.lt hs3)
          replace hbw := hbw.trans (hb5.mono hbw.size)
          clear hb5
          obtain ⟨e0, e1, e3, e13, e14⟩ := hC.cell hs3)
       | (go_at_call 27; refine (c7 _ (z5d HW.out hbw)).mono ?_; rintro e wd0 ⟨rfl, hb5⟩
          clear e0 e1 e3 e13 e14
          have hr3 : z80 wd0 g3 C := Row.below hs3 hb5 (Row.lt hs3)
          replace hbw := hbw.trans (hb5.mono hbw.size)
          clear hb5
          obtain ⟨e0, e1, e3, e13, e14⟩ := hC.cell hr3))
      clear hs3
      clear e0 e1 e3 e13 e14
      replace hr3 : z80 wd0.drew g3 C := hr3
      replace hbw := hbw.drew
      refine wp_region_held_drew (S := fun W => z80 W g3 C) (by kernel_rfl) hr3 (fun _ => ?_)
      generalize wd0.drew = wd at *
      refine wpAnyH_take (i := 0) (v := .agg C) rfl (by kernel_rfl) (by kernel_rfl) (by kernel_rfl) (fun _ _ _ h => h) (z8l _ rfl (by rfl) g3 (by exact rfl) C (fun W hW => hW) hC.sz) hr3 ?_
      try simp only [Act.put, List.getElem_toArray, List.getElem_cons_zero, jqd, jqe, jqf]
      refine wpAnyH_ready (rs := [1]) (by kernel_rfl) (by simp) (AllReadyH.cons rfl (fun K hK => ?_) AllReadyH.nil)
      go_simp
      go_wp2_with fail
      refine (c4 _).mono ?_
      rintro e wA ⟨rfl, hbA⟩
      replace hr3 : z80 wA g3 C := Row.below hr3 hbA (Row.lt hr3)
      replace hbw := hbw.trans (hbA.mono hbw.size)
      clear hbA
      refine hK.out _ _ hr3 (fun _ => ?_)
      clear hK K
      try simp only [Act.put, List.getElem_toArray, List.getElem_cons_zero, List.getElem_cons_succ, jqd, jqe, jqf]
      refine wpAnyH_take (i := 2) (v := .bool true) rfl (by kernel_rfl) (by kernel_rfl) (by kernel_rfl) (fun _ _ _ h => h) (Or.inl ⟨by rfl, fun W hW => by go_simp; try (with_reducible rfl)⟩) hr3 ?_
      try simp only [Act.put, List.getElem_toArray, List.getElem_cons_zero, List.getElem_cons_succ, jqd, jqe, jqf]
      refine wpAnyH_take (i := 3) (v := .bool true) rfl (by kernel_rfl) (by kernel_rfl) (by kernel_rfl) (fun _ _ _ h => h) (Or.inl ⟨by rfl, fun W hW => by go_simp; try (with_reducible rfl)⟩) hr3 ?_
      try simp only [Act.put, List.getElem_toArray, List.getElem_cons_zero, List.getElem_cons_succ, jqd, jqe, jqf]
      refine wpAnyH_take (i := 4) (v := undef) rfl (by kernel_rfl) (by kernel_rfl) (by kernel_rfl) (fun _ _ _ h => h) (Or.inr ⟨by rfl, rfl⟩) hr3 ?_
      try simp only [Act.put, List.getElem_toArray, List.getElem_cons_zero, List.getElem_cons_succ, jqd, jqe, jqf]
      refine wpAnyH_take (i := 5) (v := undef) rfl (by kernel_rfl) (by kernel_rfl) (by kernel_rfl) (fun _ _ _ h => h) (Or.inr ⟨by rfl, rfl⟩) hr3 ?_
      try simp only [Act.put, List.getElem_toArray, List.getElem_cons_zero, List.getElem_cons_succ, jqd, jqe, jqf]
      refine wpAnyH_take (i := 6) (v := undef) rfl (by kernel_rfl) (by kernel_rfl) (by kernel_rfl) (fun _ _ _ h => h) (Or.inr ⟨by rfl, rfl⟩) hr3 ?_
      try simp only [Act.put, List.getElem_toArray, List.getElem_cons_zero, List.getElem_cons_succ, jqd, jqe, jqf]
      refine wpAnyH_take (i := 7) (v := undef) rfl (by kernel_rfl) (by kernel_rfl) (by kernel_rfl) (fun _ _ _ h => h) (Or.inr ⟨by rfl, rfl⟩) hr3 ?_
      try simp only [Act.put, List.getElem_toArray, List.getElem_cons_zero, List.getElem_cons_succ, jqd, jqe, jqf]
      refine wpAnyH_take (i := 8) (v := undef) rfl (by kernel_rfl) (by kernel_rfl) (by kernel_rfl) (fun _ _ _ h => h) (Or.inr ⟨by rfl, rfl⟩) hr3 ?_
      try simp only [Act.put, List.getElem_toArray, List.getElem_cons_zero, List.getElem_cons_succ, jqd, jqe, jqf]
      refine wpAnyH_take (i := 9) (v := undef) rfl (by kernel_rfl) (by kernel_rfl) (by kernel_rfl) (fun _ _ _ h => h) (Or.inr ⟨by rfl, rfl⟩) hr3 ?_
      try simp only [Act.put, List.getElem_toArray, List.getElem_cons_zero, List.getElem_cons_succ, jqd, jqe, jqf]
      refine wpAnyH_take (i := 10) (v := .bool true) rfl (by kernel_rfl) (by kernel_rfl) (by kernel_rfl) (fun _ _ _ h => h) (Or.inl ⟨by rfl, fun W hW => by go_simp; try (with_reducible rfl)⟩) hr3 ?_
      try simp only [Act.put, List.getElem_toArray, List.getElem_cons_zero, List.getElem_cons_succ, jqd, jqe, jqf]
      refine wpAnyH_take (i := 11) (v := .bool true) rfl (by kernel_rfl) (by kernel_rfl) (by kernel_rfl) (fun _ _ _ h => h) (Or.inl ⟨by rfl, fun W hW => by go_simp; try (with_reducible rfl)⟩) hr3 ?_
      try simp only [Act.put, List.getElem_toArray, List.getElem_cons_zero, List.getElem_cons_succ, jqd, jqe, jqf]
      refine wpAnyH_ready (rs := [12]) (by kernel_rfl) (by simp) (AllReadyH.cons rfl (fun K hK => ?_) AllReadyH.nil)
      go_simp
      go_wp2_with fail
      refine (cw _ (z5d HW.out hbw)).mono ?_
      rintro e wA ⟨rfl, hbA⟩
      replace hr3 : z80 wA g3 C := Row.below hr3 hbA (Row.lt hr3)
      replace hbw := hbw.trans (hbA.mono hbw.size)
      clear hbA
      refine hK.out _ _ hr3 (fun _ => ?_)
      clear hK K
      try simp only [Act.put, List.getElem_toArray, List.getElem_cons_zero, List.getElem_cons_succ, jqd, jqe, jqf]
      refine wpAnyH_take (i := 13) (v := .bool true) rfl (by kernel_rfl) (by kernel_rfl) (by kernel_rfl) (fun _ _ _ h => h) (Or.inl ⟨by rfl, fun W hW => by go_simp; try (with_reducible rfl)⟩) hr3 ?_
      try simp only [Act.put, List.getElem_toArray, List.getElem_cons_zero, List.getElem_cons_succ, jqd, jqe, jqf]
      refine wpAnyH_ready (rs := [14]) (by kernel_rfl) (by simp) (AllReadyH.cons rfl (fun K hK => ?_) AllReadyH.nil)
      go_simp
      refine hK.out _ _ hr3 (fun _ => ?_)
      clear hK K
      try simp only [Act.put, List.getElem_toArray, List.getElem_cons_zero, List.getElem_cons_succ, jqd, jqe, jqf]
      refine wpAnyH_done (by kernel_rfl) ?_ _
      go_wp2
      go_ret
      exact ⟨rfl, hbw⟩
 ·generalize (z6m (ls s)).2.cells = C at *
  generalize (z6m (ls s)).2.host.cells = H at *
  generalize bs (z6m (ls s)).2.scheme = S at *
  have hn0 : (((z6m (ls s)).1 : Nat) : Int) ≠ 0 := by omega
  generalize (((z6m (ls s)).1 : Nat) : Int) = n at *
  have hq : (n == 0) = false := by rw [beq_eq_false_iff_ne]; exact hn0
  have hq2 : (n != 0) = true := by rw [bne, hq]; rfl
  clear h1 hw hn hn0 hgood hsm c2
  go_enter Tryz.func7, Tryz.ntmps7
  go_wp2_with fail
  refine (c1 _).mono ?_
  rintro e w1 ⟨rfl, hbw⟩
  go_wp2_with (first
   | (refine zay _ rfl 3 rfl _ rfl uz z43 ?_
      intro W3 g3 hg3 hl3 hr3 hG3
      have hle3 : w.heap.size <= g3 := by have := hbw.size; omega
      replace hbw := zav hbw hG3 jH)
   | (refine z84 rfl rfl _ _ rfl g3 (by exact rfl) C (by exact rfl) uz hr3 rfl hC.sz hC.one ?_
      intro w4 hs3 hG4
      replace hbw := zau hbw hG4 jH hle3
      obtain ⟨e0, e1, e3, e13, e14⟩ := hC.cell hs3)
   | (go_at_call 22; refine (cw _ (z5d HW.out hbw)).mono ?_; rintro e wA ⟨rfl, hb5⟩
      replace hbw := hbw.trans (hb5.mono hbw.size)))
  go_ret
  exact ⟨rfl, hbw⟩
end

end Go.Proofs.YtekaljeicfjkjaaGreatDoor
