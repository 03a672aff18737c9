/-
The contract of the reference's Restart.
Both disks in memory, apart from each other; what a call on one of them leaves of the other.
The reference's log in memory.
-/
import Derived.Test.YtngomoolmncbaaaGreatB18
import Derived.Deep.RegionHeld3
import Derived.Test.YtngomoolmncbaaaGreatB11
import Derived.Test.YtngomoolmncbaaaGreatB06
namespace Go.Proofs.YtngomoolmncbaaaGreat
section
open Go.RowKit

/-- An operation of a drawn region that gives its value in every world that meets a condition is taken first. -/
theorem heldT {P : Program} {md : Region.Mode} {ops : Array Oper} {Q : Exit → Act → World → Prop} {S : World → Prop} {i : Nat} {oi : Oper} {v : Value} {fuel : Nat} {listed : Array Bool} {a : Act} {w : World} (hi : ops[i]? = some oi)
    (hs : Region.noSelect ops = true) (hf : Region.free md ops listed i = true) (hr : (Region.ready md ops listed).contains i = true)
    (hQ : ∀ c a w, Q (.panic c) (a.put oi.dst v) w → Q (.panic c) a w) (hw : Region.wanted oi (yielded ops a.tmps) = true) (hrun : ∀ w, S w → (execOp a.eval oi).run P w = .ok (.value v) w) (hS : S w)
    (h : ∀ K : Act → World → Prop, (∀ a w, wpAnyH P md ops Q S fuel (listed.setIfInBounds i true) a w → K a w) → K (a.put oi.dst v) w) : wpAnyH P md ops Q S (fuel + 1) listed a w :=
  wpAnyH_take hi hs hf hr hQ (Or.inl ⟨hw, hrun⟩) hS (h _ (fun _ _ h => h))

/-- append of a slice, as a step of a drawn region; the length may be 0. -/
theorem step_app {P : Program} {w0 w : World} {ops : Array Oper} {o : Oper} {a : Act} {K : Act → World → Prop} {Q : Exit → Act → World → Prop} {E : Prop} (hgd : o.guard = none) (s x : Operand) (t : TypeId)
    (ho : o.op = .call { callee := .builtin .append, args := #[s, x], argTypes := #[t, t] })
    (base : Nat) (e : TypeId) (i : TypeInfo) (z : Value) (bytes : Nat) (ht : P.underlying t = some (.slice e)) (hi : P.info? e = some i) (hz : i.zero = some z)
    (hsize : i.size = 1) (hby : i.bytes = bytes) (hzs : z.cells.size = 1)
    (v : Value) (n : Nat) (xs : List Value) (hs : a.eval s = v) (hown : w.ownsRow base e 1 v n xs)
    (ad : Addr) (m c : Nat) (news : List Value) (hx : a.eval x = .slice (some ad) m c) (hl : news.length = m * 1) (hnews : ∀ j u, news[j]? = some u → w.cell? (ad.add j) = some u) (h1 : ∀ u ∈ news, u.oneCell' = true)
    (h63 : n + m ≤ maxLen) (hbytes : (n + m) * bytes ≤ 140737488355328) (hb : Below base w0 w) (hbase : base ≤ w0.heap.size)
    (h : ∀ v' w', w'.ownsRow base e 1 v' (n + m) (xs ++ news) → Below base w0 w' → K (a.put o.dst v') w') :
    if Region.wanted o (yielded ops a.tmps) = true then Oper.wp P o a w K Q else E := by
  have hbw : base ≤ w.heap.size := by have := hb.size; omega
  have hw : Region.wanted o (yielded ops a.tmps) = true := by simp [Region.wanted, hgd]
  rw [if_pos hw]
  refine wp_append_own w s x t ho base e i z 1 bytes ht hi hz hsize hby hzs (by decide) v n xs hs hown ad m c news hx hl hnews h1 h63 hbytes hbw ?_
  intro v' w' hown' hgrow _
  exact h v' w' hown' (owns_below hown hb hbw hgrow)

/-- What the loads of the store of a kept sector find, but for the cell that is stored to. -/
def RkS (a r1 r2 n c1 c2 i g2 cg2 : Nat) (W : World) : Prop := W.cell? ⟨a, 0, none⟩ = some (.slice (some ⟨r1, 0, none⟩) n c1) ∧ W.cell? ⟨a, 1, none⟩ = some (.slice (some ⟨r2, 0, none⟩) n c2) ∧ W.cell? ⟨r2, i, none⟩ = some (.slice (some ⟨g2, 0, none⟩) 64 cg2)
theorem RkS.below {a r1 r2 n c1 c2 i g2 cg2 : Nat} {D W : World} (h : RkS a r1 r2 n c1 c2 i g2 cg2 D) (hb : Below D.heap.size D W) : RkS a r1 r2 n c1 c2 i g2 cg2 W :=
  ⟨(hb.cell (p := ⟨a, 0, none⟩) (World.block_lt_of_cell? D ⟨a, 0, none⟩ h.1)).trans h.1, (hb.cell (p := ⟨a, 1, none⟩) (World.block_lt_of_cell? D ⟨a, 1, none⟩ h.2.1)).trans h.2.1, (hb.cell (p := ⟨r2, i, none⟩) (World.block_lt_of_cell? D ⟨r2, i, none⟩ h.2.2)).trans h.2.2⟩
theorem RkS.set {a r1 r2 n c1 c2 i g2 cg2 : Nat} {W : World} (h : RkS a r1 r2 n c1 c2 i g2 cg2 W) (h1 : r1 ≠ a) (h2 : r1 ≠ r2) (v : Value) : RkS a r1 r2 n c1 c2 i g2 cg2 (W.setCell ⟨r1, i, none⟩ v) :=
  ⟨(World.cell?_setCell_far W ⟨r1, i, none⟩ ⟨a, 0, none⟩ v h1).trans h.1, (World.cell?_setCell_far W ⟨r1, i, none⟩ ⟨a, 1, none⟩ v h1).trans h.2.1, (World.cell?_setCell_far W ⟨r1, i, none⟩ ⟨r2, i, none⟩ v h2).trans h.2.2⟩
theorem own8_le {w : World} {g cap n : Nat} {l : List UInt8} (h : Own8 w g cap n l) : n ≤ cap := by obtain ⟨_, _, _, h, _⟩ := h; exact h
theorem own8_lt {w : World} {g cap n : Nat} {l : List UInt8} (h : Own8 w g cap n l) : g < w.heap.size := by obtain ⟨_, h, _⟩ := h; exact h.lt
theorem own8_below {w w' : World} {g cap n : Nat} {l : List UInt8} (h : Own8 w g cap n l) (hb : Below w.heap.size w w') : Own8 w' g cap n l := by
  have hlt := own8_lt h
  obtain ⟨cur, hr, h2⟩ := h
  exact ⟨cur, (hb.block g hlt).trans hr, h2⟩
theorem add_flat' (b off j : Nat) : (⟨b, off, none⟩ : Addr).add j = ⟨b, off + j, none⟩ := by unfold Addr.add; split <;> simp_all
/-- Where a slice from s on begins. -/
theorem tail_addr {D : World} {g c s : Nat} {l : List UInt8} (h : Own8 D g c 64 l) (hs : s ≤ 64) :
    ∃ ad, (if c = s then some (⟨g, 0, none⟩ : Addr) else some ⟨g, s, none⟩) = some ad ∧ ∀ W, Below D.heap.size D W → ∀ j u, ((l.drop s).map bv)[j]? = some u → W.cell? (ad.add j) = some u := by
  refine ⟨if c = s then ⟨g, 0, none⟩ else ⟨g, s, none⟩, by split <;> rfl, fun W hb j u hj => ?_⟩
  have hl : l.length = 64 := h.len
  have hjl : j < ((l.drop s).map bv).length := (List.getElem?_eq_some_iff.1 hj).1
  simp at hjl
  have hc : 64 ≤ c := own8_le h
  rw [if_neg (by omega), add_flat']
  rw [hb.cell (p := ⟨g, s + j, none⟩) (own8_lt h)]
  have := h.cell (j := s + j) (by omega)
  rw [this]
  rw [← hj]
  simp [List.getElem?_eq_getElem (show s + j < l.length by omega), List.getD_eq_getElem?_getD, bv_eq]
theorem rend {w wr D W4 : World} {F : Nat → Prop} {a n : Nat} {T : Dsk} (hF : Frm F w D) (h : RD W4 (fun b => (F b ∨ newF w wr b) ∨ newF D W4 b) a n T) (hfr : Frm (fun b => F b ∨ newF w wr b) D W4) : RD W4 (fun b => F b ∨ newF w W4 b) a n T ∧ Frm F w W4 := by
  have s1 := hF.size
  refine ⟨h.more ?_ ?_, hF.trans hfr fun b hb => hb.elim .inl fun h => .inr h.1⟩
  · rintro b ((hb | hb) | hb)
    · exact .inl hb
    · exact .inr ⟨hb.1, h.lt b (.inl (.inr hb))⟩
    · exact .inr ⟨by have := hb.1; omega, hb.2⟩
  · rintro b (hb | hb)
    · exact h.lt b (.inl (.inl hb))
    · exact hb.2
theorem join_own {xs old : List UInt8} {s B : Nat} (hx : xs.length = 64) (hs : s ≤ 64) (v : Value) (W : World) (h : W.ownsRow B 5 1 v (0 + s + (64 - s)) ([] ++ (xs.take s).map bv ++ (old.drop s).map bv)) : W.ownsRow B 5 1 v 64 ((onto (xs.take s) old).map bv) := by
  rw [show 0 + s + (64 - s) = 64 by omega, List.nil_append, ← List.map_append, onto_parts hx hs] at h
  exact h

set_option maxRecDepth 20000 in
set_option maxHeartbeats 6400000 in
theorem rrestart_any {w : World} {F : Nat → Prop} {a n : Nat} {S : Dsk} (h : RD w F a n S) (A : Option Addr) (m c : Nat) (ks : List (Int × Int)) (hP : PairsF F w A m ks) (hm : m ≤ 1000000) :
    Calls Tryz.prog 17 #[.pointer (some ⟨a, 0, none⟩), .slice A m c] w fun e w' => e = .returned (.tuple #[]) ∧ RD w' (fun b => F b ∨ newF w w' b) a n (S.restarted ks) ∧ Frm F w w' := by
  have HP := Lib.hid hP
  have HM := Lib.hid hm
  have H := Lib.hid h
  have hn4 := Lib.hid h.ok.n4
  clear h hP hm
  go_enter Tryz.func17, Tryz.ntmps17
  go_wp2
  go_loopw [4] (fun i wr => ∃ k : Nat, k ≤ m ∧ i = .int .i64 k ∧ Hid (RD wr (fun b => F b ∨ newF w wr b) a n (S.withSt ((ks.take k).foldl (keep1 S.ca) S.st)) ∧ Frm F w wr)) (fun i _ => m - (RowKit.intOf i).toNat)
  case atStart => exact ⟨0, Nat.zero_le _, rfl, H.out.wide (Frm.refl F w), Frm.refl F w⟩
  case round =>
    obtain ⟨k, hk, rfl, HR⟩ := hrel
    have hkb : (k : Int) ≤ 1000000 := by have := HM.out; omega
    have hkw : wrap64 ((k : Int) + 1) = (k : Int) + 1 := by unfold wrap64; omega
    obtain ⟨r1, r2, c1, c2, A0, m0, c0, V1, V2, hx⟩ := HR.out.1
    have k0 := hx.e0
    have k1 := hx.e1
    by_cases hlt : k < m
    · have hd : decide ((k : Int) < (m : Int)) = true := by simpa using hlt
      have hlti : (k : Int) < (m : Int) := by omega
      obtain ⟨b, off, rfl, hbw, hnb, hc⟩ := HP.out.2.2 (by omega)
      have hkf : k < ks.length := by rw [HP.out.1]; exact hlt
      obtain ⟨p1, p2⟩ := hc k hkf
      have d1 := (HR.out.2.cell (p := ⟨b, off + k * 2, none⟩) hbw hnb).trans p1
      have d2 := (HR.out.2.cell (p := ⟨b, off + k * 2 + 1, none⟩) hbw hnb).trans p2
      have hstep : Hid ((ks.take (k + 1)).foldl (keep1 S.ca) S.st = keep1 S.ca ((ks.take k).foldl (keep1 S.ca) S.st) ks[k]) := by
        show _ = _
        rw [List.take_succ_eq_append_getElem hkf, List.foldl_append]
        rfl
      generalize ks[k] = p at d1 d2 hstep
      obtain ⟨x, y⟩ := p
      simp only at d1 d2
      generalize (ks.take k).foldl (keep1 S.ca) S.st = st at HR hstep hx
      clear hc p1 p2 hkf hk hnb hbw
      have HX := Lib.hid hx
      by_cases hin : ∃ (i : Nat) (xs : List UInt8), x = i ∧ S.ca i = some xs
      · obtain ⟨i, xs, rfl, hca⟩ := hin
        obtain ⟨hin, hxl⟩ := hx.ok.ca i xs hca
        have x1 := hx.row1.cell hin
        have x2 := hx.row2.cell hin
        obtain ⟨g1, cg1, e1, hF1, ho1⟩ := hx.v1 i hin
        have hv2 := hx.v2 i hin
        have hca' : (S.withSt st).ca i = some xs := hca
        rw [hca'] at hv2
        obtain ⟨g2, cg2, e2, hF2, ho2⟩ := (show Sl _ _ (V2 i) xs from hv2)
        rw [e1] at x1
        rw [e2] at x2
        have q0 : ∀ W : World, (binOp .eql 37 (.slice (some ⟨g2, 0, none⟩) 64 cg2) (.slice none 0 0)).run Tryz.prog W = .ok (.bool false) W := fun W => Lib.run_eql_slice_nil W _ _ (some ⟨g2, 0, none⟩) 64 cg2 0 0 tyBs
        have hi0 : decide ((i : Int) < 0) = false := by simp
        have hi1 : decide ((n : Int) ≤ (i : Int)) = false := by simp; omega
        have hini : (i : Int) < (n : Int) := by omega
        obtain ⟨M, hM⟩ : ∃ M, min y 64 = M := ⟨_, rfl⟩
        have hmin := fun (W : World) (ts : Array TypeId) (t : TypeId) => min_two (P := Tryz.prog) W ts t y 64 M hM
        obtain ⟨s, hs⟩ : ∃ s, s = kb y := ⟨_, rfl⟩
        have hmax := fun (W : World) (ts : Array TypeId) (t : TypeId) => max_two (P := Tryz.prog) W ts t 0 M (s : Int) (by rw [hs, ← hM]; unfold kb; omega)
        have hs64 : s ≤ 64 := by rw [hs]; exact kb_le y
        have hs64i : (s : Int) ≤ 64 := by omega
        have hg2c : 64 ≤ cg2 := own8_le ho2
        have hg1c : 64 ≤ cg1 := own8_le ho1
        have hs2i : (s : Int) ≤ (cg2 : Int) := by omega
        have hs1i : (s : Int) ≤ (cg1 : Int) := by omega
        have hc20 : ¬ cg2 = 0 := by omega
        have hkm : Hid (keep1 S.ca st ((i : Int), y) = upd st i (onto (xs.take s) (st i))) := by show _ = _; rw [hs]; exact keep1_hit hca
        have hxl64 := Lib.hid hxl
        have hst64 : Hid ((st i).length = 64) := by show _ = _; exact hx.ok.st i hin
        have hn1 : Hid (((xs.take s).map bv).length = s * 1) := by show _ = _; simp; omega
        have hn2 : Hid ((((st i).drop s).map bv).length = (64 - s) * 1) := by show _ = _; have := hst64.out; simp; omega
        have hb1 : Hid (0 + s ≤ maxLen) := by show _ ≤ _; unfold maxLen; omega
        have hb2 : Hid ((0 + s) * 1 ≤ 140737488355328) := by show _ ≤ _; omega
        have hb3 : Hid (0 + s + (64 - s) ≤ maxLen) := by show _ ≤ _; unfold maxLen; omega
        have hb4 : Hid ((0 + s + (64 - s)) * 1 ≤ 140737488355328) := by show _ ≤ _; omega
        have HE1 := Lib.hid e1
        have HE2 := Lib.hid e2
        have HO1 := Lib.hid ho1
        have HO2 := Lib.hid ho2
        clear hs hM hv2 hca' hx ho1 ho2 hF1 hF2 e1 e2 hca hxl
        go_wp2
        refine wp_region_held (S := RkS a r1 r2 n c1 c2 i g2 cg2) (by kernel_rfl) ?_
        change wpAnyH _ _ _ _ _ _ _ _ (World.drew _)
        have hbd := Lib.hid ((Below.refl wr.heap.size wr).drew)
        have HD := Lib.hid (HX.out.keep (G := fun _ => False) (Frm.of_below hbd.out) fun _ h => h.elim)
        have HF := Lib.hid (HR.out.2.trans' (Frm.of_below (F := F) hbd.out))
        have HO1' := Lib.hid (own8_below HO1.out hbd.out)
        have HO2' := Lib.hid (own8_below HO2.out hbd.out)
        clear k0 k1 x1 x2 d1 d2
        generalize World.drew wr = D at *
        have HSD : RkS a r1 r2 n c1 c2 i g2 cg2 D := ⟨HD.out.e0, HD.out.e1, (HD.out.row2.cell hin).trans (by rw [HE2.out])⟩
        have dD : D.cell? ⟨r1, i, none⟩ = some (.slice (some ⟨g1, 0, none⟩) 64 cg1) := (HD.out.row1.cell hin).trans (by rw [HE1.out])
        have hr1lt : r1 < D.heap.size := HD.out.lt r1 HD.out.f1
        have hne1 : r1 ≠ a := (rows_ne HD.out.row1 HD.out.cells (by decide)).symm
        have hne2 : r1 ≠ r2 := HD.out.ne
        have hsrc2 : Hid (∀ W, Below D.heap.size D W → ∀ j u, ((xs.take s).map bv)[j]? = some u → W.cell? ((⟨g2, 0, none⟩ : Addr).add j) = some u) := by
          intro W hb j u hj
          have hjl : j < ((xs.take s).map bv).length := (List.getElem?_eq_some_iff.1 hj).1
          simp at hjl
          rw [add_flat', Nat.zero_add, hb.cell (p := ⟨g2, j, none⟩) (own8_lt HO2'.out), HO2'.out.cell (j := j) (by omega), ← hj]
          have hl := HO2'.out.len
          simp [List.getElem?_eq_getElem (show j < xs.length by omega), List.getElem?_take_of_lt (show j < s by omega), List.getD_eq_getElem?_getD, bv_eq]
        obtain ⟨ad2, had2, hsrc1⟩ := tail_addr HO1'.out hs64
        have hsrc1 := Lib.hid hsrc1
        have had2 := Lib.hid had2
        have hjoin : Hid (∀ (v : Value) (W : World), W.ownsRow D.heap.size 5 1 v (0 + s + (64 - s)) ([] ++ (xs.take s).map bv ++ ((st i).drop s).map bv) → W.ownsRow D.heap.size 5 1 v 64 ((onto (xs.take s) (st i)).map bv)) := fun v W h => join_own hxl64.out hs64 v W h
        obtain ⟨i5, hi5, hz0, hz1, hz2⟩ := info_parts infoU8
        have bd0 : Below D.heap.size D D := Below.refl _ _
        have HS := HSD
        refine heldT (i := 0) (v := ?_) rfl (by kernel_rfl) (by kernel_rfl) (by kernel_rfl) (fun _ _ _ h => h) (by exact rfl) (by intro w hw; obtain ⟨k0, k1, k2⟩ := hw; go_simp; try with_reducible rfl) HS (fun K hK => ?_); go_simp; refine hK _ _ ?_; clear hK K
        refine heldT (i := 1) (v := ?_) rfl (by kernel_rfl) (by kernel_rfl) (by kernel_rfl) (fun _ _ _ h => h) (by exact rfl) (by intro w hw; obtain ⟨k0, k1, k2⟩ := hw; go_simp; try with_reducible rfl) HS (fun K hK => ?_); go_simp; refine hK _ _ ?_; clear hK K
        refine heldT (i := 2) (v := ?_) rfl (by kernel_rfl) (by kernel_rfl) (by kernel_rfl) (fun _ _ _ h => h) (by exact rfl) (by intro w hw; obtain ⟨k0, k1, k2⟩ := hw; go_simp; try with_reducible rfl) HS (fun K hK => ?_); go_simp; refine hK _ _ ?_; clear hK K
        refine heldT (i := 3) (v := ?_) rfl (by kernel_rfl) (by kernel_rfl) (by kernel_rfl) (fun _ _ _ h => h) (by exact rfl) (by intro w hw; obtain ⟨k0, k1, k2⟩ := hw; go_simp; try with_reducible rfl) HS (fun K hK => ?_); go_simp; refine hK _ _ ?_; clear hK K
        refine heldT (i := 4) (v := ?_) rfl (by kernel_rfl) (by kernel_rfl) (by kernel_rfl) (fun _ _ _ h => h) (by exact rfl) (by intro w hw; obtain ⟨k0, k1, k2⟩ := hw; go_simp; try with_reducible rfl) HS (fun K hK => ?_); go_simp; refine hK _ _ ?_; clear hK K
        refine heldT (i := 6) (v := ?_) rfl (by kernel_rfl) (by kernel_rfl) (by kernel_rfl) (fun _ _ _ h => h) (by exact rfl) (by intro w hw; obtain ⟨k0, k1, k2⟩ := hw; go_simp; try with_reducible rfl) HS (fun K hK => ?_); go_simp; refine hK _ _ ?_; clear hK K
        refine heldT (i := 7) (v := ?_) rfl (by kernel_rfl) (by kernel_rfl) (by kernel_rfl) (fun _ _ _ h => h) (by exact rfl) (by intro w hw; obtain ⟨k0, k1, k2⟩ := hw; go_simp; try with_reducible rfl) HS (fun K hK => ?_); go_simp; refine hK _ _ ?_; clear hK K
        refine heldT (i := 8) (v := ?_) rfl (by kernel_rfl) (by kernel_rfl) (by kernel_rfl) (fun _ _ _ h => h) (by exact rfl) (by intro w hw; obtain ⟨k0, k1, k2⟩ := hw; go_simp; try with_reducible rfl) HS (fun K hK => ?_); go_simp; refine hK _ _ ?_; clear hK K
        refine heldT (i := 9) (v := ?_) rfl (by kernel_rfl) (by kernel_rfl) (by kernel_rfl) (fun _ _ _ h => h) (by exact rfl) (by intro w hw; obtain ⟨k0, k1, k2⟩ := hw; go_simp; try with_reducible rfl) HS (fun K hK => ?_); go_simp; refine hK _ _ ?_; clear hK K
        refine heldT (i := 10) (v := ?_) rfl (by kernel_rfl) (by kernel_rfl) (by kernel_rfl) (fun _ _ _ h => h) (by exact rfl) (by intro w hw; obtain ⟨k0, k1, k2⟩ := hw; go_simp; try with_reducible rfl) HS (fun K hK => ?_); go_simp; refine hK _ _ ?_; clear hK K
        refine heldT (i := 11) (v := ?_) rfl (by kernel_rfl) (by kernel_rfl) (by kernel_rfl) (fun _ _ _ h => h) (by exact rfl) (by intro w hw; obtain ⟨k0, k1, k2⟩ := hw; go_simp; try with_reducible rfl) HS (fun K hK => ?_); go_simp; refine hK _ _ ?_; clear hK K
        refine heldT (i := 12) (v := ?_) rfl (by kernel_rfl) (by kernel_rfl) (by kernel_rfl) (fun _ _ _ h => h) (by exact rfl) (by intro w hw; obtain ⟨k0, k1, k2⟩ := hw; go_simp; try with_reducible rfl) HS (fun K hK => ?_); go_simp; refine hK _ _ ?_; clear hK K
        refine heldT (i := 13) (v := ?_) rfl (by kernel_rfl) (by kernel_rfl) (by kernel_rfl) (fun _ _ _ h => h) (by exact rfl) (by intro w hw; obtain ⟨k0, k1, k2⟩ := hw; go_simp; try with_reducible rfl) HS (fun K hK => ?_); go_simp; refine hK _ _ ?_; clear hK K
        refine heldT (i := 14) (v := ?_) rfl (by kernel_rfl) (by kernel_rfl) (by kernel_rfl) (fun _ _ _ h => h) (by exact rfl) (by intro w hw; obtain ⟨k0, k1, k2⟩ := hw; go_simp; try with_reducible rfl) HS (fun K hK => ?_); go_simp; refine hK _ _ ?_; clear hK K
        refine heldT (i := 16) (v := ?_) rfl (by kernel_rfl) (by kernel_rfl) (by kernel_rfl) (fun _ _ _ h => h) (by exact rfl) (by intro w hw; obtain ⟨k0, k1, k2⟩ := hw; go_simp; try with_reducible rfl) HS (fun K hK => ?_); go_simp; refine hK _ _ ?_; clear hK K
        refine heldT (i := 17) (v := ?_) rfl (by kernel_rfl) (by kernel_rfl) (by kernel_rfl) (fun _ _ _ h => h) (by exact rfl) (by intro w hw; obtain ⟨k0, k1, k2⟩ := hw; go_simp; try with_reducible rfl) HS (fun K hK => ?_); go_simp; refine hK _ _ ?_; clear hK K
        refine heldT (i := 18) (v := ?_) rfl (by kernel_rfl) (by kernel_rfl) (by kernel_rfl) (fun _ _ _ h => h) (by exact rfl) (by intro w hw; obtain ⟨k0, k1, k2⟩ := hw; go_simp; try with_reducible rfl) HS (fun K hK => ?_); go_simp; refine hK _ _ ?_; clear hK K
        refine heldT (i := 19) (v := ?_) rfl (by kernel_rfl) (by kernel_rfl) (by kernel_rfl) (fun _ _ _ h => h) (by exact rfl) (by intro w hw; obtain ⟨k0, k1, k2⟩ := hw; go_simp; try with_reducible rfl) HS (fun K hK => ?_); go_simp; refine hK _ _ ?_; clear hK K
        refine heldT (i := 20) (v := ?_) rfl (by kernel_rfl) (by kernel_rfl) (by kernel_rfl) (fun _ _ _ h => h) (by exact rfl) (by intro w hw; obtain ⟨k0, k1, k2⟩ := hw; go_simp; try with_reducible rfl) HS (fun K hK => ?_); go_simp; refine hK _ _ ?_; clear hK K
        refine heldT (i := 21) (v := ?_) rfl (by kernel_rfl) (by kernel_rfl) (by kernel_rfl) (fun _ _ _ h => h) (by exact rfl) (by intro w hw; obtain ⟨k0, k1, k2⟩ := hw; go_simp; try with_reducible rfl) HS (fun K hK => ?_); go_simp; refine hK _ _ ?_; clear hK K
        refine heldT (i := 23) (v := ?_) rfl (by kernel_rfl) (by kernel_rfl) (by kernel_rfl) (fun _ _ _ h => h) (by exact rfl) (by intro w hw; obtain ⟨k0, k1, k2⟩ := hw; go_simp; try with_reducible rfl) HS (fun K hK => ?_); go_simp; refine hK _ _ ?_; clear hK K
        refine wpAnyH_ready (rs := [5, 22]) (by kernel_rfl) (by simp) ?_
        refine AllReadyH.cons rfl (fun K hK => ?_) (AllReadyH.cons rfl (fun K hK => ?_) AllReadyH.nil)
        · go_simp
          have hown1 := own_empty D 5
          have bd1 := bd0.alloc bd0.size (.cells #[] 5)
          have HS1 := HSD.below bd1
          have d1 := (bd1.cell (p := ⟨r1, i, none⟩) hr1lt).trans dD
          refine hK.out _ _ HS1 (fun HS => ?_)
          clear hK K
          generalize D.alloc (.cells #[] 5) = W1 at *
          refine wpAnyH_ready (rs := [15, 22]) (by kernel_rfl) (by simp) ?_
          refine AllReadyH.cons rfl (fun K hK => ?_) (AllReadyH.cons rfl (fun K hK => ?_) AllReadyH.nil)
          · refine step_app rfl _ _ 37 (by exact rfl) D.heap.size 5 i5 (.int .u8 0) 1 tyBs hi5 hz0 hz1 hz2 rfl _ 0 [] (by exact rfl) hown1 ⟨g2, 0, none⟩ s cg2 ((xs.take s).map bv) (by exact rfl) hn1.out (hsrc2.out W1 bd1) (one_bytes _) hb1.out hb2.out bd1 (Nat.le_refl _) ?_
            intro v2 W2 hown2 bd2
            have HS2 := HSD.below bd2
            have d2 := (bd2.cell (p := ⟨r1, i, none⟩) hr1lt).trans dD
            refine hK.out _ _ HS2 (fun HS => ?_)
            clear hK K hown1
            refine wpAnyH_ready (rs := [22]) (by kernel_rfl) (by simp) ?_
            refine AllReadyH.cons rfl (fun K hK => ?_) AllReadyH.nil
            go_simp
            refine hK.out _ _ HS (fun HS => ?_)
            clear hK K
            refine heldT (i := 24) (v := .slice (some ad2) (64 - s) (cg1 - s)) rfl (by kernel_rfl) (by kernel_rfl) (by kernel_rfl) (fun _ _ _ h => h) (by exact rfl) (by intro w hw; go_simp) HS (fun K hK => ?_); go_simp; refine hK _ _ ?_; clear hK K
            refine wpAnyH_ready (rs := [25]) (by kernel_rfl) (by simp) ?_
            refine AllReadyH.cons rfl (fun K hK => ?_) AllReadyH.nil
            refine step_app rfl _ _ 37 (by exact rfl) D.heap.size 5 i5 (.int .u8 0) 1 tyBs hi5 hz0 hz1 hz2 rfl _ (0 + s) ([] ++ (xs.take s).map bv) (by exact rfl) hown2 ad2 (64 - s) (cg1 - s) (((st i).drop s).map bv) (by exact rfl) hn2.out (hsrc1.out W2 bd2) (one_bytes _) hb3.out hb4.out bd2 (Nat.le_refl _) ?_
            intro v3 W3 hown3 bd3
            have HS3 := HSD.below bd3
            have d3 := (bd3.cell (p := ⟨r1, i, none⟩) hr1lt).trans dD
            refine hK.out _ _ HS3 (fun HS => ?_)
            clear hK K hown2
            refine heldT (i := 26) (v := ?_) rfl (by kernel_rfl) (by kernel_rfl) (by kernel_rfl) (fun _ _ _ h => h) (by exact rfl) (by intro w hw; obtain ⟨k0, k1, k2⟩ := hw; go_simp; try with_reducible rfl) HS (fun K hK => ?_); go_simp; refine hK _ _ ?_; clear hK K
            have ho3 := hjoin.out v3 W3 hown3
            obtain ⟨g3, cap3, rfl, _, _⟩ := ho3.form (by omega)
            obtain ⟨hset, hfr, hce, hfz⟩ := rkeep HD.out bd3 hin ho3
            have HS4 := HS3.set (i := i) hne1 hne2 (.slice (some ⟨g3, 0, none⟩) 64 cap3)
            refine wpAnyH_ready (rs := [27]) (by kernel_rfl) (by simp) ?_
            refine AllReadyH.cons rfl (fun K hK => ?_) AllReadyH.nil
            go_simp
            refine hK.out _ _ HS4 (fun HS => ?_)
            clear hK K
            generalize W3.setCell ⟨r1, i, none⟩ (.slice (some ⟨g3, 0, none⟩) 64 cap3) = W4 at *
            refine wpAnyH_done (by kernel_rfl) ?_ _
            go_wp2
            go_roundw
            case rel => exact ⟨k + 1, by omega, by go_num, by rw [hstep.out, hkm.out]; exact rend HF.out hset hfr⟩
            case measure => simp [RowKit.intOf]; omega
          · go_simp
            refine hK.out _ _ HS (fun HS => ?_)
            clear hK K
            refine heldT (i := 24) (v := .slice (some ad2) (64 - s) (cg1 - s)) rfl (by kernel_rfl) (by kernel_rfl) (by kernel_rfl) (fun _ _ _ h => h) (by exact rfl) (by intro w hw; go_simp) HS (fun K hK => ?_); go_simp; refine hK _ _ ?_; clear hK K
            refine wpAnyH_ready (rs := [15]) (by kernel_rfl) (by simp) ?_
            refine AllReadyH.cons rfl (fun K hK => ?_) AllReadyH.nil
            refine step_app rfl _ _ 37 (by exact rfl) D.heap.size 5 i5 (.int .u8 0) 1 tyBs hi5 hz0 hz1 hz2 rfl _ 0 [] (by exact rfl) hown1 ⟨g2, 0, none⟩ s cg2 ((xs.take s).map bv) (by exact rfl) hn1.out (hsrc2.out W1 bd1) (one_bytes _) hb1.out hb2.out bd1 (Nat.le_refl _) ?_
            intro v2 W2 hown2 bd2
            have HS2 := HSD.below bd2
            have d2 := (bd2.cell (p := ⟨r1, i, none⟩) hr1lt).trans dD
            refine hK.out _ _ HS2 (fun HS => ?_)
            clear hK K hown1
            refine wpAnyH_ready (rs := [25]) (by kernel_rfl) (by simp) ?_
            refine AllReadyH.cons rfl (fun K hK => ?_) AllReadyH.nil
            refine step_app rfl _ _ 37 (by exact rfl) D.heap.size 5 i5 (.int .u8 0) 1 tyBs hi5 hz0 hz1 hz2 rfl _ (0 + s) ([] ++ (xs.take s).map bv) (by exact rfl) hown2 ad2 (64 - s) (cg1 - s) (((st i).drop s).map bv) (by exact rfl) hn2.out (hsrc1.out W2 bd2) (one_bytes _) hb3.out hb4.out bd2 (Nat.le_refl _) ?_
            intro v3 W3 hown3 bd3
            have HS3 := HSD.below bd3
            have d3 := (bd3.cell (p := ⟨r1, i, none⟩) hr1lt).trans dD
            refine hK.out _ _ HS3 (fun HS => ?_)
            clear hK K hown2
            refine heldT (i := 26) (v := ?_) rfl (by kernel_rfl) (by kernel_rfl) (by kernel_rfl) (fun _ _ _ h => h) (by exact rfl) (by intro w hw; obtain ⟨k0, k1, k2⟩ := hw; go_simp; try with_reducible rfl) HS (fun K hK => ?_); go_simp; refine hK _ _ ?_; clear hK K
            have ho3 := hjoin.out v3 W3 hown3
            obtain ⟨g3, cap3, rfl, _, _⟩ := ho3.form (by omega)
            obtain ⟨hset, hfr, hce, hfz⟩ := rkeep HD.out bd3 hin ho3
            have HS4 := HS3.set (i := i) hne1 hne2 (.slice (some ⟨g3, 0, none⟩) 64 cap3)
            refine wpAnyH_ready (rs := [27]) (by kernel_rfl) (by simp) ?_
            refine AllReadyH.cons rfl (fun K hK => ?_) AllReadyH.nil
            go_simp
            refine hK.out _ _ HS4 (fun HS => ?_)
            clear hK K
            generalize W3.setCell ⟨r1, i, none⟩ (.slice (some ⟨g3, 0, none⟩) 64 cap3) = W4 at *
            refine wpAnyH_done (by kernel_rfl) ?_ _
            go_wp2
            go_roundw
            case rel => exact ⟨k + 1, by omega, by go_num, by rw [hstep.out, hkm.out]; exact rend HF.out hset hfr⟩
            case measure => simp [RowKit.intOf]; omega
        · go_simp
          refine hK.out _ _ HS (fun HS => ?_)
          clear hK K
          refine heldT (i := 24) (v := .slice (some ad2) (64 - s) (cg1 - s)) rfl (by kernel_rfl) (by kernel_rfl) (by kernel_rfl) (fun _ _ _ h => h) (by exact rfl) (by intro w hw; go_simp) HS (fun K hK => ?_); go_simp; refine hK _ _ ?_; clear hK K
          refine wpAnyH_ready (rs := [5]) (by kernel_rfl) (by simp) ?_
          refine AllReadyH.cons rfl (fun K hK => ?_) AllReadyH.nil
          go_simp
          have hown1 := own_empty D 5
          have bd1 := bd0.alloc bd0.size (.cells #[] 5)
          have HS1 := HSD.below bd1
          have d1 := (bd1.cell (p := ⟨r1, i, none⟩) hr1lt).trans dD
          refine hK.out _ _ HS1 (fun HS => ?_)
          clear hK K
          generalize D.alloc (.cells #[] 5) = W1 at *
          refine wpAnyH_ready (rs := [15]) (by kernel_rfl) (by simp) ?_
          refine AllReadyH.cons rfl (fun K hK => ?_) AllReadyH.nil
          refine step_app rfl _ _ 37 (by exact rfl) D.heap.size 5 i5 (.int .u8 0) 1 tyBs hi5 hz0 hz1 hz2 rfl _ 0 [] (by exact rfl) hown1 ⟨g2, 0, none⟩ s cg2 ((xs.take s).map bv) (by exact rfl) hn1.out (hsrc2.out W1 bd1) (one_bytes _) hb1.out hb2.out bd1 (Nat.le_refl _) ?_
          intro v2 W2 hown2 bd2
          have HS2 := HSD.below bd2
          have d2 := (bd2.cell (p := ⟨r1, i, none⟩) hr1lt).trans dD
          refine hK.out _ _ HS2 (fun HS => ?_)
          clear hK K hown1
          refine wpAnyH_ready (rs := [25]) (by kernel_rfl) (by simp) ?_
          refine AllReadyH.cons rfl (fun K hK => ?_) AllReadyH.nil
          refine step_app rfl _ _ 37 (by exact rfl) D.heap.size 5 i5 (.int .u8 0) 1 tyBs hi5 hz0 hz1 hz2 rfl _ (0 + s) ([] ++ (xs.take s).map bv) (by exact rfl) hown2 ad2 (64 - s) (cg1 - s) (((st i).drop s).map bv) (by exact rfl) hn2.out (hsrc1.out W2 bd2) (one_bytes _) hb3.out hb4.out bd2 (Nat.le_refl _) ?_
          intro v3 W3 hown3 bd3
          have HS3 := HSD.below bd3
          have d3 := (bd3.cell (p := ⟨r1, i, none⟩) hr1lt).trans dD
          refine hK.out _ _ HS3 (fun HS => ?_)
          clear hK K hown2
          refine heldT (i := 26) (v := ?_) rfl (by kernel_rfl) (by kernel_rfl) (by kernel_rfl) (fun _ _ _ h => h) (by exact rfl) (by intro w hw; obtain ⟨k0, k1, k2⟩ := hw; go_simp; try with_reducible rfl) HS (fun K hK => ?_); go_simp; refine hK _ _ ?_; clear hK K
          have ho3 := hjoin.out v3 W3 hown3
          obtain ⟨g3, cap3, rfl, _, _⟩ := ho3.form (by omega)
          obtain ⟨hset, hfr, hce, hfz⟩ := rkeep HD.out bd3 hin ho3
          have HS4 := HS3.set (i := i) hne1 hne2 (.slice (some ⟨g3, 0, none⟩) 64 cap3)
          refine wpAnyH_ready (rs := [27]) (by kernel_rfl) (by simp) ?_
          refine AllReadyH.cons rfl (fun K hK => ?_) AllReadyH.nil
          go_simp
          refine hK.out _ _ HS4 (fun HS => ?_)
          clear hK K
          generalize W3.setCell ⟨r1, i, none⟩ (.slice (some ⟨g3, 0, none⟩) 64 cap3) = W4 at *
          refine wpAnyH_done (by kernel_rfl) ?_ _
          go_wp2
          go_roundw
          case rel => exact ⟨k + 1, by omega, by go_num, by rw [hstep.out, hkm.out]; exact rend HF.out hset hfr⟩
          case measure => simp [RowKit.intOf]; omega
      · have hkm := Lib.hid (keep_miss S.ca st x y hin)
        by_cases hx0 : x < 0
        · have hi0 : decide (x < 0) = true := by simpa using hx0
          clear hx0 hin hx
          go_wp2
          go_roundw
          case rel => exact ⟨k + 1, by omega, by go_num, by rw [hstep.out, hkm.out]; exact HR⟩
          case measure => simp [RowKit.intOf]; omega
        · have hi0 : decide (x < 0) = false := by simpa using hx0
          by_cases hxn : (n : Int) ≤ x
          · have hi1 : decide ((n : Int) ≤ x) = true := by simpa using hxn
            clear hx0 hin hx
            go_wp2
            go_roundw
            case rel => exact ⟨k + 1, by omega, by go_num, by rw [hstep.out, hkm.out]; exact HR⟩
            case measure => simp [RowKit.intOf]; omega
          · obtain ⟨i, rfl⟩ : ∃ i : Nat, x = i := ⟨x.toNat, by omega⟩
            have hilt : i < n := by omega
            have x2 := hx.row2.cell hilt
            have hv2 := hx.v2 i hilt
            have hca : (S.withSt st).ca i = none := by
              cases hc : S.ca i with
              | none => exact hc
              | some xs => exact absurd ⟨i, xs, rfl, hc⟩ hin
            rw [hca] at hv2
            have hv2' : V2 i = .slice none 0 0 := hv2
            rw [hv2'] at x2
            have q0 : ∀ W : World, (binOp .eql 37 (.slice none 0 0) (.slice none 0 0)).run Tryz.prog W = .ok (.bool true) W := fun W => Lib.run_eql_slice_nil W _ _ none 0 0 0 0 tyBs
            have hi1 : decide ((n : Int) ≤ (i : Int)) = false := by simp; omega
            have hini : (i : Int) < (n : Int) := by omega
            clear hx0 hin hx hca hv2 hv2'
            go_wp2
            go_roundw
            case rel => exact ⟨k + 1, by omega, by go_num, by rw [hstep.out, hkm.out]; exact HR⟩
            case measure => simp [RowKit.intOf]; omega
    · have hd : decide ((k : Int) < (m : Int)) = false := by simpa using hlt
      obtain rfl : k = m := by omega
      have HTK : Hid (ks.take k = ks) := by show _ = _; exact List.take_of_length_le (by rw [HP.out.1]; exact Nat.le_refl _)
      have hmk := mk_rows wr n hn4.out
      have lta := hx.lt a hx.fa
      have bd := (Below.refl wr.heap.size wr).alloc (Nat.le_refl _) (.cells (madeCells #[.slice none 0 0] n) 37)
      have hx1 := hx.keep (G := fun _ => False) (Frm.of_below bd) fun _ h => h.elim
      have j1 := hx1.e1
      have f1 := hx1.fr 1
      have HX := Lib.hid hx
      have HX1 := Lib.hid hx1
      have hlast := Lib.hid (heap_alloc_last wr (.cells (madeCells #[.slice none 0 0] n) 37))
      have HBD := Lib.hid bd
      have hcc := Lib.hid hx1.cells
      clear hx hx1 bd k1
      go_wp2_with (first
        | (refine wpList_store_set rfl rfl _ _ _ rfl ⟨a, 1, none⟩ (by exact rfl) (.slice (some ⟨wr.heap.size, 0, none⟩) n n) (by exact rfl) rfl (by kernel_rfl) _ j1 f1 ?_
           have hfa1 := Lib.hid ((Frm.refl (fun b => b = a) (wr.alloc (.cells (madeCells #[.slice none 0 0] n) 37))).setCell (p := ⟨a, 1, none⟩) (.inl rfl) (.slice (some ⟨wr.heap.size, 0, none⟩) n n))
           have hcc1 := Lib.hid (set_field (j := 1) (v := .slice (some ⟨wr.heap.size, 0, none⟩) n n) hcc.out)
           clear j1 f1
           generalize (wr.alloc (.cells (madeCells #[.slice none 0 0] n) 37)).setCell ⟨a, 1, none⟩ (.slice (some ⟨wr.heap.size, 0, none⟩) n n) = u1 at *
           have j2 : u1.cell? ⟨a, 2, none⟩ = some (.slice A0 m0 c0) := cell_of_row u1 a 2 _ _ _ hcc1.out
           have f2 : u1.frozen? ⟨a, 2, none⟩ = false := by simp [World.frozen?, hcc1.out])
        | (refine wpList_store_set rfl rfl _ _ _ rfl ⟨a, 2, none⟩ (by exact rfl) (.slice none 0 0) (by exact rfl) rfl (by kernel_rfl) _ j2 f2 ?_
           have hfa2 := Lib.hid (hfa1.out.setCell (p := ⟨a, 2, none⟩) (.inl rfl) (.slice none 0 0))
           have hcc2 := Lib.hid (set_field (j := 2) (v := .slice none 0 0) hcc1.out)
           clear j2 f2
           generalize u1.setCell ⟨a, 2, none⟩ (.slice none 0 0) = u2 at *
           have j3 : u2.cell? ⟨a, 3, none⟩ = some (.int .i64 S.cnt) := cell_of_row u2 a 3 _ _ _ hcc2.out
           have f3 : u2.frozen? ⟨a, 3, none⟩ = false := by simp [World.frozen?, hcc2.out])
        | (refine wpList_store_set rfl rfl _ _ _ rfl ⟨a, 3, none⟩ (by exact rfl) (.int .i64 0) (by exact rfl) rfl (by kernel_rfl) _ j3 f3 ?_
           have hfa3 := Lib.hid (hfa2.out.setCell (p := ⟨a, 3, none⟩) (.inl rfl) (.int .i64 0))
           have hcc3 := Lib.hid (set_field (j := 3) (v := .int .i64 0) hcc2.out)
           clear j3 f3
           generalize u2.setCell ⟨a, 3, none⟩ (.int .i64 0) = u3 at *
           have j4 : u3.cell? ⟨a, 4, none⟩ = some (.bool S.off) := cell_of_row u3 a 4 _ _ _ hcc3.out
           have f4 : u3.frozen? ⟨a, 4, none⟩ = false := by simp [World.frozen?, hcc3.out])
        | (refine wpList_store_set rfl rfl _ _ _ rfl ⟨a, 4, none⟩ (by exact rfl) (.bool false) (by exact rfl) rfl (by kernel_rfl) _ j4 f4 ?_
           have hfa4 := Lib.hid (hfa3.out.setCell (p := ⟨a, 4, none⟩) (.inl rfl) (.bool false))
           have hcc4 := Lib.hid (set_field (j := 4) (v := .bool false) hcc3.out)
           clear j4 f4
           generalize u3.setCell ⟨a, 4, none⟩ (.bool false) = w9 at *))
      go_end0
      have hf1 := hfa4.out
      have hcf := hcc4.out
      have hf : Frm (fun b => b = a) wr w9 := (Frm.of_below HBD.out).trans' hf1
      have hlast9 := hf1.obj hlast.out (fun e => by omega)
      have hend := HX.out.fresh hf (Nat.le_refl _) (lt_of_some hlast9) hlast9 (by simpa using hcf)
      have s1 := HR.out.2.size
      have s2 := hf.size
      refine ⟨rfl, ?_, HR.out.2.trans hf fun b e => by subst e; exact HX.out.fa.elim .inl fun h => .inr h.1⟩
      have e9 : S.restarted ks = { st := (S.withSt ((ks.take k).foldl (keep1 S.ca) S.st)).st, ca := fun _ => none, fs := [], cnt := 0, off := false } := by rw [HTK.out]; rfl
      rw [e9]
      refine hend.more ?_ ?_
      · rintro b ((hb | hb) | hb)
        · exact .inl hb
        · exact .inr ⟨hb.1, by have := hb.2; omega⟩
        · exact .inr ⟨by have := hb.1; omega, hb.2⟩
      · rintro b (hb | hb)
        · exact hend.lt b (.inl (.inl hb))
        · exact hb.2
end

section
open Go.RowKit

/-- The program's disk in the blocks F1, the reference's in F2, none of them older than w. -/
structure Two (w x : World) (F1 F2 : Nat → Prop) (a1 a2 n : Nat) (S1 S2 : Dsk) : Prop where
  p : PD x F1 a1 n S1
  r : RD x F2 a2 n S2
  ne : ∀ b, F1 b → F2 b → False
  lo1 : ∀ b, F1 b → w.heap.size ≤ b
  lo2 : ∀ b, F2 b → w.heap.size ≤ b
  bel : Below w.heap.size w x
section
variable {w x y : World} {F1 F2 : Nat → Prop} {a1 a2 n : Nat} {S1 S2 S : Dsk}
theorem Two.below (h : Two w x F1 F2 a1 a2 n S1 S2) (hb : Below x.heap.size x y) : Two w y F1 F2 a1 a2 n S1 S2 :=
  ⟨h.p.below hb, h.r.below hb, h.ne, h.lo1, h.lo2, h.bel.trans (hb.mono h.bel.size)⟩
theorem Two.p_step (h : Two w x F1 F2 a1 a2 n S1 S2) (hp : PD y (fun b => F1 b ∨ newF x y b) a1 n S) (hf : Frm F1 x y) : Two w y (fun b => F1 b ∨ newF x y b) F2 a1 a2 n S S2 :=
  ⟨hp, h.r.keep hf h.ne, fun b hb h2 => hb.elim (fun hb => h.ne b hb h2) fun hb => by have := h.r.lt b h2; have := hb.1; omega,
    fun b hb => hb.elim (h.lo1 b) fun hb => by have := h.bel.size; have := hb.1; omega, h.lo2, h.bel.trans (hf.below h.lo1 h.bel.size)⟩
theorem Two.r_step (h : Two w x F1 F2 a1 a2 n S1 S2) (hp : RD y (fun b => F2 b ∨ newF x y b) a2 n S) (hf : Frm F2 x y) : Two w y F1 (fun b => F2 b ∨ newF x y b) a1 a2 n S1 S :=
  ⟨h.p.keep hf fun b h2 h1 => h.ne b h1 h2, hp, fun b h1 hb => hb.elim (fun hb => h.ne b h1 hb) fun hb => by have := h.p.lt b h1; have := hb.1; omega,
    h.lo1, fun b hb => hb.elim (h.lo2 b) fun hb => by have := h.bel.size; have := hb.1; omega, h.bel.trans (hf.below h.lo2 h.bel.size)⟩
theorem Two.p_same (h : Two w x F1 F2 a1 a2 n S1 S2) (hp : PD y F1 a1 n S) (hf : Frm F1 x y) : Two w y F1 F2 a1 a2 n S S2 :=
  ⟨hp, h.r.keep hf h.ne, h.ne, h.lo1, h.lo2, h.bel.trans (hf.below h.lo1 h.bel.size)⟩
theorem Two.r_same (h : Two w x F1 F2 a1 a2 n S1 S2) (hp : RD y F2 a2 n S) (hf : Frm F2 x y) : Two w y F1 F2 a1 a2 n S1 S :=
  ⟨h.p.keep hf fun b h2 h1 => h.ne b h1 h2, hp, h.ne, h.lo1, h.lo2, h.bel.trans (hf.below h.lo2 h.bel.size)⟩
theorem Two.has1 (h : Two w x F1 F2 a1 a2 n S1 S2) {A : Option Addr} {m : Nat} {xs : List Value} (hA : Has w w.heap.size A m xs) : HasF F1 x A m xs :=
  HasF.of_low (hA.below' h.bel (Nat.le_refl _)) h.bel.size h.lo1
theorem Two.has2 (h : Two w x F1 F2 a1 a2 n S1 S2) {A : Option Addr} {m : Nat} {xs : List Value} (hA : Has w w.heap.size A m xs) : HasF F2 x A m xs :=
  HasF.of_low (hA.below' h.bel (Nat.le_refl _)) h.bel.size h.lo2
theorem Two.prs1 (h : Two w x F1 F2 a1 a2 n S1 S2) {A : Option Addr} {m : Nat} {ps : List (Int × Int)} (hA : PairsF noF w A m ps) : PairsF F1 x A m ps :=
  hA.keep (Frm.of_below h.bel) fun b hb => .inr (h.lo1 b hb)
theorem Two.prs2 (h : Two w x F1 F2 a1 a2 n S1 S2) {A : Option Addr} {m : Nat} {ps : List (Int × Int)} (hA : PairsF noF w A m ps) : PairsF F2 x A m ps :=
  hA.keep (Frm.of_below h.bel) fun b hb => .inr (h.lo2 b hb)
/-- A cell of a block that is neither disk's stays as it was. -/
theorem Two.far1 (h : Two w x F1 F2 a1 a2 n S1 S2) (hf : Frm F1 x y) {z j : Nat} {v : Value} (hz : ¬ F1 z) (hc : x.cell? ⟨z, j, none⟩ = some v) : y.cell? ⟨z, j, none⟩ = some v :=
  (hf.cell (p := ⟨z, j, none⟩) (cell_lt hc) hz).trans hc
end
theorem rdv_has {w w1 w2 : World} {F : Nat → Prop} {A : Option Addr} {m : Nat} {l : List UInt8} (h : ∀ G : Nat → Prop, (∀ b, G b → b < w.heap.size) → HasF G w1 A m (l.map bv)) (hF : ∀ b, F b → b < w.heap.size) (hf : Frm F w1 w2) : Has w2 w2.heap.size A m (l.map bv) :=
  ((h F hF).keep hf fun b hb => .inl hb).has
end

section
open Go.RowKit

/-- At block b stands the reference's log L, whose disk is at block a. -/
def RL (w : World) (b a : Nat) (L : Lg) : Prop := w.heap[b]? = some (.cells #[.pointer (some ⟨a, 0, none⟩), .int .i64 L.f, .int .i64 L.c, .int .u32 (nv L.e), .int .i64 (L.fin : Int), .int .i64 (L.cnt : Int), .int .i64 (L.syn : Int), .bool L.bad] 72 (0, 0))
theorem RL.keep {w w1 : World} {F : Nat → Prop} {b a : Nat} {L : Lg} (h : RL w b a L) (hf : Frm F w w1) (hn : ¬ F b) : RL w1 b a L := hf.obj h hn
theorem RL.below {w w1 : World} {b a : Nat} {L : Lg} (h : RL w b a L) (hb : Below w.heap.size w w1) : RL w1 b a L := (hb.block b (lt_of_some h)).trans h
/-- A log or none. -/
def RLo (w : World) (G : Nat → Prop) (lo a : Nat) (pv : Value) (o : Option Lg) : Prop := (o = none ∧ pv = .pointer none) ∨ ∃ L b, o = some L ∧ pv = .pointer (some ⟨b, 0, none⟩) ∧ RL w b a L ∧ lo ≤ b ∧ ¬ G b
/-- What the reference's Open leaves. -/
def ROpenP (w : World) (F : Nat → Prop) (a n : Nat) (R : WOp) (r : Ending) (w' : World) : Prop :=
  ∃ (G : Nat → Prop) (pv lv : Value), r = .returned (.tuple #[pv, lv, .int .i64 R.err]) ∧ RD w' G a n R.S ∧ Frm F w w' ∧ (∀ b, G b → F b ∨ w.heap.size ≤ b) ∧ RLo w' G w.heap.size a pv R.L ∧ NewR w.heap.size w'.heap.size w' lv R.ps
theorem ROpenP.no {w w' : World} {F G : Nat → Prop} {a n : Nat} {R : WOp} {T : Dsk} {x : Int} (hR : R = ⟨T, x, none, []⟩) (h : RD w' G a n T) (hf : Frm F w w') (hG : ∀ b, G b → F b ∨ w.heap.size ≤ b) :
    ROpenP w F a n R (.returned (.tuple #[.pointer none, .slice none 0 0, .int .i64 x])) w' := by
  subst hR
  exact ⟨G, _, _, rfl, h, hf, hG, .inl ⟨rfl, rfl⟩, NewR.nil _ _ _⟩
end

end Go.Proofs.YtngomoolmncbaaaGreat
