/-
  The contract of the reference's Write.
-/
import Derived.Test.YtbknpfngboioeaaDrV
namespace Go.Proofs.Ytbknpfngboioeaa
open Go.RowKit

theorem hasF_src {w : World} {F : Nat → Prop} {A : Option Addr} {l : List UInt8} (h : HasF F w A 64 (l.map bv)) : ∃ ad, A = some ad ∧ ∀ j v, (l.map bv)[j]? = some v → w.cell? (ad.add j) = some v := has_src h.has (by rw [h.1]; decide)
theorem write_endR {w v w3 : World} {F : Nat → Prop} {a n : Nat} {S : Dsk} (hf : Frm F w v) (h : RD w3 (fun k => F k ∨ newF v w3 k) a n S) : RD w3 (fun k => F k ∨ newF w w3 k) a n S := by
  have := hf.size
  refine h.more ?_ ?_
  · rintro b (hb | hb)
    · exact .inl hb
    · exact .inr ⟨by have := hb.1; omega, hb.2⟩
  · rintro b (hb | hb)
    · exact h.lt b (.inl hb)
    · exact hb.2
theorem write_endR2 {w v w3 w4 : World} {F G : Nat → Prop} {a n : Nat} {S : Dsk} (hf : Frm F w v) (hf4 : Frm G w3 w4) (h : RD w4 (fun k => F k ∨ newF v w3 k) a n S) : RD w4 (fun k => F k ∨ newF w w4 k) a n S := by
  have := hf.size
  have := hf4.size
  refine h.more ?_ ?_
  · rintro b (hb | hb)
    · exact .inl hb
    · exact .inr ⟨by have := hb.1; omega, by have := hb.2; omega⟩
  · rintro b (hb | hb)
    · exact h.lt b (.inl hb)
    · exact hb.2
/-- A sector put into the cache. -/
theorem rput {D W2 : World} {F : Nat → Prop} {a n k : Nat} {S : Dsk} {q1 q2 d1 d2 m c g1 cap1 : Nat} {A : Option Addr} {V1 V2 : Nat → Value} {l : List UInt8} (h : RDx D F a n S q1 q2 d1 d2 A m c V1 V2) (bd : Below D.heap.size D W2) (hk : k < n)
    (ho : W2.ownsRow D.heap.size 5 1 (.slice (some ⟨g1, 0, none⟩) (0 + 64) cap1) (0 + 64) ([] ++ l.map bv)) (hx : l.length = 64) :
    RD (W2.setCell ⟨q2, k, none⟩ (.slice (some ⟨g1, 0, none⟩) (0 + 64) cap1)) (fun b => F b ∨ newF D (W2.setCell ⟨q2, k, none⟩ (.slice (some ⟨g1, 0, none⟩) (0 + 64) cap1)) b) a n (S.put k l) ∧ Frm F D (W2.setCell ⟨q2, k, none⟩ (.slice (some ⟨g1, 0, none⟩) (0 + 64) cap1)) ∧
      W2.cell? ⟨q2, k, none⟩ = some (V2 k) ∧ W2.frozen? ⟨q2, k, none⟩ = false := by
  have hsz : (W2.setCell ⟨q2, k, none⟩ (.slice (some ⟨g1, 0, none⟩) (0 + 64) cap1)).heap.size = W2.heap.size := by simp [World.setCell]
  have h2 := (h.keep (G := fun _ => False) (Frm.of_below bd) fun _ h => h.elim)
  have h3 := h2.more (G := fun b => F b ∨ newF D W2 b) (fun b hb => .inl hb) fun b hb => hb.elim (h2.lt b) fun h => h.2
  rw [List.nil_append] at ho
  obtain ⟨g, cg, e, hg, hog⟩ := Own8.of ho (by omega)
  have hsl : Sl W2 (fun b => F b ∨ newF D W2 b) (.slice (some ⟨g1, 0, none⟩) (0 + 64) cap1) l := by
    obtain ⟨cur, hr, _⟩ := id hog
    exact ⟨g, cg, e, .inr ⟨hg, hr.lt⟩, hog⟩
  have h4 := h3.set2 hk (v := .slice (some ⟨g1, 0, none⟩) (0 + 64) cap1) (o := some l) hsl fun xs e => by injection e with e; rw [← e]; exact hx
  refine ⟨?_, ?_, h2.row2.cell hk, h2.row2.fr k⟩
  · unfold newF
    rw [hsz]
    exact ⟨_, _, _, _, _, _, _, _, _, h4⟩
  · exact (Frm.of_below bd).trans ((Frm.refl (fun b => b = q2) W2).setCell (p := ⟨q2, k, none⟩) (.inl rfl) _) fun b e => .inl (e ▸ h.f2)

set_option maxRecDepth 20000 in
set_option maxHeartbeats 3200000 in
theorem rwrite_fine {w : World} {F : Nat → Prop} {a n : Nat} {S : Dsk} (h : RD w F a n S) (k : Nat) (hkn : k < n) (A : Option Addr) (cap : Nat) (l : List UInt8) (hA : HasF F w A 64 (l.map bv)) (ho : S.off = false) (kd : Int) (hkd : S.kind = kd) (p : Bool) (hk1' : (kd == 1) = false) (hk2' : (kd == 2) = p) :
    Calls Try.prog 16 #[.pointer (some ⟨a, 0, none⟩), .int .i64 k, .slice A 64 cap] w fun e w' => e = .returned (.int .i64 (if p then 10 else 0)) ∧ RD w' (fun b => F b ∨ newF w w' b) a n ((if p then S.tick.cut else S.tick).put k l) ∧ Frm F w w' := by
  have hft := rfault_any h
  rw [hkd] at hft
  have hx := h
  obtain ⟨r1, r2, c1, c2, A0, m0, c0, V1, V2, hx⟩ := hx
  have c4 := hx.e4
  rw [ho] at c4
  have b0 := hx.e0
  have hn4i : (n : Int) ≤ 4096 := by have := hx.ok.n4; omega
  have hi0' : decide ((k : Int) < 0) = false := by simp
  have hin' : decide ((n : Int) ≤ (k : Int)) = false := by simp; omega
  have hkni : (k : Int) < (n : Int) := by omega
  have HAH := Lib.hid hA
  have hx64 : Hid (l.length = 64) := by show _ = _; simpa using hA.1
  have hl64 : Hid ((l.map bv).length = 64 * 1) := by show _ = _; simpa using hA.1
  have hb1 : Hid (0 + 64 ≤ maxLen) := by show _ ≤ _; unfold maxLen; omega
  obtain ⟨i5, hi5, hz0, hz1, hz2⟩ := info_parts infoU8
  clear hx h ho hkd hA
  go_enter Try.func16, Try.ntmps16
  go_wp2_with (go_at_call 55; refine hft.mono ?_; rintro e w1 ⟨rfl, hrd, hf⟩; have hrd' := hrd.below ((Below.refl _ _).drew); have hf' := hf.drew; clear hrd hf)
  refine wp_region_any (by kernel_rfl) ?_
  change wpAny _ _ _ _ _ _ _ (World.drew _)
  generalize World.drew w1 = D at *
  obtain ⟨q1, q2, d1, d2, A', m', c', U1, U2, hy⟩ := hrd'
  have HY := Lib.hid hy
  have HF1 := Lib.hid hf'
  have b1c : D.cell? ⟨a, 1, none⟩ = some (.slice (some ⟨q2, 0, none⟩) n d2) := hy.e1
  have HA := Lib.hid (HAH.out.keep hf' (G := F) fun _ h => .inl h)
  have bd0 : Below D.heap.size D D := Below.refl _ _
  clear hy hf' HAH b0 c4 hft
  have hrest : True := trivial
  refine any_take (i := 0) (v := ?_) rfl (by kernel_rfl) (by kernel_rfl) (by kernel_rfl) (fun _ _ _ h => h) (by exact rfl) (by intro w; go_simp; try with_reducible rfl) (fun K hK => ?_); go_simp; refine hK _ _ ?_; clear hK K
  refine any_take (i := 1) (v := ?_) rfl (by kernel_rfl) (by kernel_rfl) (by kernel_rfl) (fun _ _ _ h => h) (by exact rfl) (by intro w; go_simp; try with_reducible rfl) (fun K hK => ?_); go_simp; refine hK _ _ ?_; clear hK K
  refine any_take (i := 2) (v := ?_) rfl (by kernel_rfl) (by kernel_rfl) (by kernel_rfl) (fun _ _ _ h => h) (by exact rfl) (by intro w; go_simp; try with_reducible rfl) (fun K hK => ?_); go_simp; refine hK _ _ ?_; clear hK K
  refine any_take (i := 4) (v := ?_) rfl (by kernel_rfl) (by kernel_rfl) (by kernel_rfl) (fun _ _ _ h => h) (by exact rfl) (by intro w; go_simp; try with_reducible rfl) (fun K hK => ?_); go_simp; refine hK _ _ ?_; clear hK K
  refine any_take (i := 6) (v := ?_) rfl (by kernel_rfl) (by kernel_rfl) (by kernel_rfl) (fun _ _ _ h => h) (by exact rfl) (by intro w; go_simp; try with_reducible rfl) (fun K hK => ?_); go_simp; refine hK _ _ ?_; clear hK K
  refine wpAny_ready (rs := [3, 5]) (by kernel_rfl) (by simp) ?_
  refine AllReady.cons rfl (fun K hK => ?_) (AllReady.cons rfl (fun K hK => ?_) AllReady.nil)
  · go_simp
    refine hK _ _ ?_
    clear hK K b1c
    refine wpAny_ready (rs := [5]) (by kernel_rfl) (by simp) ?_
    refine AllReady.cons rfl (fun K hK => ?_) AllReady.nil
    go_simp
    refine hK _ _ ?_
    clear hK K
    have hown1 := own_empty D 5
    have bd1 := bd0.alloc bd0.size (.cells #[] 5)
    have hs1 : D.heap.size ≤ (D.alloc (.cells #[] 5)).heap.size := by simp
    have hsrc1 := hasF_src (HA.out.keep (Frm.of_below bd1) fun b h => .inl h)
    generalize D.alloc (.cells #[] 5) = W1 at *
    refine wpAny_ready (rs := [7]) (by kernel_rfl) (by simp) ?_
    refine AllReady.cons rfl (fun K hK => ?_) AllReady.nil
    obtain ⟨ad, rfl, hsr⟩ := hsrc1
    refine step_append_lies _ rfl _ _ 32 (by exact rfl) D.heap.size 5 i5 (.int .u8 0) 1 1 tyBs hi5 hz0 hz1 hz2 rfl (by decide) _ 0 [] (by exact rfl) hown1 ad 64 cap (l.map bv) (by exact rfl) hl64.out hsr (one_bytes _) (by decide) hb1.out (by decide) bd1.size _ rfl ?_
    intro g1 cap1 W2 hown2 hgr2 hgg _
    refine hK _ _ ?_
    clear hK K hsr
    have bd2 := bd1.grown hgr2 bd1.size (fun z e => Nat.le_of_eq (Option.some.inj e))
    clear hown1 hgr2
    refine any_take (i := 8) (v := ?_) rfl (by kernel_rfl) (by kernel_rfl) (by kernel_rfl) (fun _ _ _ h => h) (by exact rfl) (by intro w; go_simp; try with_reducible rfl) (fun K hK => ?_); go_simp; refine hK _ _ ?_; clear hK K
    refine wpAny_ready (rs := [9]) (by kernel_rfl) (by simp) ?_
    refine AllReady.cons rfl (fun K hK => ?_) AllReady.nil
    obtain ⟨hset, hfr, hce, hfz⟩ := rput HY.out bd2 hkn hown2 hx64.out
    go_simp
    refine hK _ _ ?_
    clear hK K
    generalize W2.setCell ⟨q2, k, none⟩ (.slice (some ⟨g1, 0, none⟩) (0 + 64) cap1) = W3 at *
    cases p
    · refine wpAny_done (by kernel_rfl) ?_ _
      go_wp2
      go_ret
      exact ⟨rfl, write_endR HF1.out hset, HF1.out.trans' hfr⟩
    · refine wpAny_done (by kernel_rfl) ?_ _
      obtain ⟨s1, s2, t1, t2, A', m', c', U1, U2, hz⟩ := hset
      have b4 := hz.e4
      have g4 := hz.fr 4
      have HZ := Lib.hid hz
      clear hz
      go_wp2
      go_ret
      obtain ⟨hcut, hfc⟩ := rcut_cell HZ.out
      exact ⟨rfl, write_endR2 HF1.out hfc ⟨_, _, _, _, _, _, _, _, _, hcut⟩, (HF1.out.trans' hfr).trans hfc fun b e => by subst e; exact HZ.out.fa.elim .inl fun h => .inr (Nat.le_trans HF1.out.size h.1)⟩
  · go_simp
    refine hK _ _ ?_
    clear hK K
    have hown1 := own_empty D 5
    have bd1 := bd0.alloc bd0.size (.cells #[] 5)
    have hs1 : D.heap.size ≤ (D.alloc (.cells #[] 5)).heap.size := by simp
    have hsrc1 := hasF_src (HA.out.keep (Frm.of_below bd1) fun b h => .inl h)
    generalize D.alloc (.cells #[] 5) = W1 at *
    have b1c : W1.cell? ⟨a, 1, none⟩ = some (.slice (some ⟨q2, 0, none⟩) n d2) := (bd1.cell (p := ⟨a, 1, none⟩) (HY.out.lt a HY.out.fa)).trans HY.out.e1
    refine wpAny_ready (rs := [3, 7]) (by kernel_rfl) (by simp) ?_
    refine AllReady.cons rfl (fun K hK => ?_) (AllReady.cons rfl (fun K hK => ?_) AllReady.nil)
    · go_simp
      refine hK _ _ ?_
      clear hK K b1c
      refine wpAny_ready (rs := [7]) (by kernel_rfl) (by simp) ?_
      refine AllReady.cons rfl (fun K hK => ?_) AllReady.nil
      obtain ⟨ad, rfl, hsr⟩ := hsrc1
      refine step_append_lies _ rfl _ _ 32 (by exact rfl) D.heap.size 5 i5 (.int .u8 0) 1 1 tyBs hi5 hz0 hz1 hz2 rfl (by decide) _ 0 [] (by exact rfl) hown1 ad 64 cap (l.map bv) (by exact rfl) hl64.out hsr (one_bytes _) (by decide) hb1.out (by decide) bd1.size _ rfl ?_
      intro g1 cap1 W2 hown2 hgr2 hgg _
      refine hK _ _ ?_
      clear hK K hsr
      have bd2 := bd1.grown hgr2 bd1.size (fun z e => Nat.le_of_eq (Option.some.inj e))
      clear hown1 hgr2
      refine any_take (i := 8) (v := ?_) rfl (by kernel_rfl) (by kernel_rfl) (by kernel_rfl) (fun _ _ _ h => h) (by exact rfl) (by intro w; go_simp; try with_reducible rfl) (fun K hK => ?_); go_simp; refine hK _ _ ?_; clear hK K
      refine wpAny_ready (rs := [9]) (by kernel_rfl) (by simp) ?_
      refine AllReady.cons rfl (fun K hK => ?_) AllReady.nil
      obtain ⟨hset, hfr, hce, hfz⟩ := rput HY.out bd2 hkn hown2 hx64.out
      go_simp
      refine hK _ _ ?_
      clear hK K
      generalize W2.setCell ⟨q2, k, none⟩ (.slice (some ⟨g1, 0, none⟩) (0 + 64) cap1) = W3 at *
      cases p
      · refine wpAny_done (by kernel_rfl) ?_ _
        go_wp2
        go_ret
        exact ⟨rfl, write_endR HF1.out hset, HF1.out.trans' hfr⟩
      · refine wpAny_done (by kernel_rfl) ?_ _
        obtain ⟨s1, s2, t1, t2, A', m', c', U1, U2, hz⟩ := hset
        have b4 := hz.e4
        have g4 := hz.fr 4
        have HZ := Lib.hid hz
        clear hz
        go_wp2
        go_ret
        obtain ⟨hcut, hfc⟩ := rcut_cell HZ.out
        exact ⟨rfl, write_endR2 HF1.out hfc ⟨_, _, _, _, _, _, _, _, _, hcut⟩, (HF1.out.trans' hfr).trans hfc fun b e => by subst e; exact HZ.out.fa.elim .inl fun h => .inr (Nat.le_trans HF1.out.size h.1)⟩
    · obtain ⟨ad, rfl, hsr⟩ := hsrc1
      refine step_append_lies _ rfl _ _ 32 (by exact rfl) D.heap.size 5 i5 (.int .u8 0) 1 1 tyBs hi5 hz0 hz1 hz2 rfl (by decide) _ 0 [] (by exact rfl) hown1 ad 64 cap (l.map bv) (by exact rfl) hl64.out hsr (one_bytes _) (by decide) hb1.out (by decide) bd1.size _ rfl ?_
      intro g1 cap1 W2 hown2 hgr2 hgg _
      refine hK _ _ ?_
      clear hK K hsr
      have bd2 := bd1.grown hgr2 bd1.size (fun z e => Nat.le_of_eq (Option.some.inj e))
      clear hown1 hgr2
      have b1c : W2.cell? ⟨a, 1, none⟩ = some (.slice (some ⟨q2, 0, none⟩) n d2) := (bd2.cell (p := ⟨a, 1, none⟩) (HY.out.lt a HY.out.fa)).trans HY.out.e1
      refine wpAny_ready (rs := [3]) (by kernel_rfl) (by simp) ?_
      refine AllReady.cons rfl (fun K hK => ?_) AllReady.nil
      go_simp
      refine hK _ _ ?_
      clear hK K b1c
      refine any_take (i := 8) (v := ?_) rfl (by kernel_rfl) (by kernel_rfl) (by kernel_rfl) (fun _ _ _ h => h) (by exact rfl) (by intro w; go_simp; try with_reducible rfl) (fun K hK => ?_); go_simp; refine hK _ _ ?_; clear hK K
      refine wpAny_ready (rs := [9]) (by kernel_rfl) (by simp) ?_
      refine AllReady.cons rfl (fun K hK => ?_) AllReady.nil
      obtain ⟨hset, hfr, hce, hfz⟩ := rput HY.out bd2 hkn hown2 hx64.out
      go_simp
      refine hK _ _ ?_
      clear hK K
      generalize W2.setCell ⟨q2, k, none⟩ (.slice (some ⟨g1, 0, none⟩) (0 + 64) cap1) = W3 at *
      cases p
      · refine wpAny_done (by kernel_rfl) ?_ _
        go_wp2
        go_ret
        exact ⟨rfl, write_endR HF1.out hset, HF1.out.trans' hfr⟩
      · refine wpAny_done (by kernel_rfl) ?_ _
        obtain ⟨s1, s2, t1, t2, A', m', c', U1, U2, hz⟩ := hset
        have b4 := hz.e4
        have g4 := hz.fr 4
        have HZ := Lib.hid hz
        clear hz
        go_wp2
        go_ret
        obtain ⟨hcut, hfc⟩ := rcut_cell HZ.out
        exact ⟨rfl, write_endR2 HF1.out hfc ⟨_, _, _, _, _, _, _, _, _, hcut⟩, (HF1.out.trans' hfr).trans hfc fun b e => by subst e; exact HZ.out.fa.elim .inl fun h => .inr (Nat.le_trans HF1.out.size h.1)⟩

end Go.Proofs.Ytbknpfngboioeaa
