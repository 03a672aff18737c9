/-
  The contract of the reference's Sync.
-/
import Derived.Test.YtbknpfngboioeaaDr8
namespace Go.Proofs.Ytbknpfngboioeaa
open Go.RowKit

/-- The disk in the middle of a Sync: the first k sectors are stored. -/
def midS (S : Dsk) (k : Nat) : Dsk := { S with st := fun i => if i < k then S.sec i else S.st i, ca := fun i => if i < k then none else S.ca i }
theorem midS_zero (S : Dsk) : midS S 0 = S := by simp [midS]
theorem midS_end {S : Dsk} {n : Nat} (h : S.Ok n) : midS S n = S.flush := by
  have h1 : ∀ i, ¬ i < n → S.ca i = none := fun i hi => by
    cases hc : S.ca i with
    | none => rfl
    | some xs => exact absurd (h.ca i xs hc).1 hi
  unfold midS Dsk.flush
  congr 1
  · funext i
    split
    · rfl
    · rename_i hi
      simp [Dsk.sec, h1 i hi]
  · funext i
    split
    · rfl
    · rename_i hi
      exact h1 i hi
theorem midS_none {S : Dsk} {k : Nat} (h : S.ca k = none) : midS S (k + 1) = midS S k := by
  unfold midS
  congr 1
  · funext i
    by_cases hi : i < k
    · rw [if_pos (by omega), if_pos hi]
    · rw [if_neg hi]
      split
      · obtain rfl : i = k := by omega
        simp [Dsk.sec, h]
      · rfl
  · funext i
    by_cases hi : i < k
    · rw [if_pos (by omega), if_pos hi]
    · rw [if_neg hi]
      split
      · obtain rfl : i = k := by omega
        exact h.symm
      · rfl
theorem midS_some {S : Dsk} {k : Nat} {xs : List UInt8} (h : S.ca k = some xs) : midS S (k + 1) = { { midS S k with st := upd (midS S k).st k xs } with ca := upd (midS S k).ca k none } := by
  unfold midS
  congr 1
  · funext i
    by_cases hik : i = k
    · subst hik; simp [upd, Dsk.sec, h]
    · simp only [upd, if_neg hik]
      by_cases hi : i < k
      · rw [if_pos (by omega), if_pos hi]
      · rw [if_neg (by omega), if_neg hi]
  · funext i
    by_cases hik : i = k
    · subst hik; simp [upd]
    · simp only [upd, if_neg hik]
      by_cases hi : i < k
      · rw [if_pos (by omega), if_pos hi]
      · rw [if_neg (by omega), if_neg hi]
theorem midS_ca (S : Dsk) (k : Nat) : (midS S k).ca k = S.ca k := by simp [midS]
/-- A sector that was in the cache is stored. -/
theorem sync_mid {D : World} {F : Nat → Prop} {a n k : Nat} {T : Dsk} {r1 r2 c1 c2 m c : Nat} {A : Option Addr} {V1 V2 : Nat → Value} (h : RDx D F a n (midS T k) r1 r2 c1 c2 A m c V1 V2) (hk : k < n) {xs : List UInt8} (hc : T.ca k = some xs) (hx : xs.length = 64) :
    RDx (D.setCell ⟨r1, k, none⟩ (V2 k)) F a n { midS T k with st := upd (midS T k).st k xs } r1 r2 c1 c2 A m c (upd V1 k (V2 k)) V2 ∧ Frm F D (D.setCell ⟨r1, k, none⟩ (V2 k)) := by
  have hv := h.v2 k hk
  rw [midS_ca, hc] at hv
  exact ⟨h.set1 hk (v := V2 k) (xs := xs) hv hx, (Frm.refl F D).setCell (p := ⟨r1, k, none⟩) (.inl h.f1) _⟩
theorem sync_mid2 {D : World} {F : Nat → Prop} {a n k : Nat} {T : Dsk} {r1 r2 c1 c2 m c : Nat} {A : Option Addr} {V1 V2 : Nat → Value} {xs : List UInt8} (h : RDx D F a n { midS T k with st := upd (midS T k).st k xs } r1 r2 c1 c2 A m c V1 V2) (hk : k < n) (hc : T.ca k = some xs) :
    RD (D.setCell ⟨r2, k, none⟩ (.slice none 0 0)) F a n (midS T (k + 1)) ∧ Frm F D (D.setCell ⟨r2, k, none⟩ (.slice none 0 0)) := by
  rw [midS_some hc]
  exact ⟨⟨_, _, _, _, _, _, _, _, _, h.set2 hk (v := .slice none 0 0) (o := none) rfl (fun _ e => by cases e)⟩, (Frm.refl F D).setCell (p := ⟨r2, k, none⟩) (.inl h.f2) _⟩

/-- A store of one cell, the world behind it said as it is. -/
theorem wpList_store_set {P : Program} {ops : Array Oper} {rest : List Oper} {o : Oper} {a : Act} {w : World} {Q : Exit → Act → World → Prop} (hg : o.guard = none) (hd : o.dst = none) (t : TypeId) (p x : Operand) (hop : o.op = .store t p x) (q : Addr) (hp : a.eval p = .pointer (some q)) (v : Value) (hx : a.eval x = v) (hv : v.oneCell' = true)
    (hi : (P.info? t).map (·.size) = some 1) (c : Value) (hcell : w.cell? q = some c) (hfro : w.frozen? q = false)
    (h : wpList P ops Q rest a (w.setCell q v)) : wpList P ops Q (o :: rest) a w := by
  refine wpList_plain hg fun K hK => ?_
  have hst : (store q v).run P w = .ok () (w.setCell q v) := by
    rw [run_store P w _ v _ hv, hcell]
    simp [hfro]
  have hc : v.cells = #[v] := by cases v <;> first | rfl | cases hv
  have hadd : q.add 0 = q := by unfold Addr.add; simp
  have hl : (storeVar t q v).run P w = .ok () (w.setCell q v) := by
    cases hq : P.info? t with
    | none => simp [hq] at hi
    | some i =>
      have hs : i.size = 1 := by simp [hq] at hi; omega
      simp [storeVar, sizeOf, typeInfo, hq, hc, hs, storeCells, hadd, hst]
  have : wpList P ops Q rest (a.put o.dst undef) (w.setCell q v) := by
    rw [hd]
    exact h
  unfold Oper.wp
  simp only [execOp, hop, hp, hx, Instr.storeAt, Instr.sureAddr, Sem.run_bind, Sem.run_pure, Result.andThen, hl]
  exact hK _ _ this

set_option maxRecDepth 20000 in
set_option maxHeartbeats 3200000 in
theorem rsync_any {w : World} {F : Nat → Prop} {a n : Nat} {S : Dsk} (h : RD w F a n S) : Calls Try.prog 18 #[.pointer (some ⟨a, 0, none⟩)] w fun e w' => e = .returned (.int .i64 (S.ans true)) ∧ RD w' F a n S.synced ∧ Frm F w w' := by
  cases ho : S.off with
  | true =>
    have h1 : S.ans true = 10 := by simp [Dsk.ans, Dsk.err, ho]
    have h2 : S.synced = S := by simp [Dsk.synced, Dsk.done, Dsk.ans, Dsk.err, Dsk.begun, ho]
    rw [h1, h2]
    have hx := h
    obtain ⟨r1, r2, c1, c2, A0, m, c, V1, V2, hx⟩ := hx
    have c4 := hx.e4
    rw [ho] at c4
    have H := Lib.hid h
    clear hx h ho h1 h2
    go_enter Try.func18, Try.ntmps18
    go_wp2
    go_ret
    exact ⟨rfl, H.out, Frm.refl _ _⟩
  | false =>
    have hx := h
    obtain ⟨r1, r2, c1, c2, A0, m, c, V1, V2, hx⟩ := hx
    have c4 := hx.e4
    rw [ho] at c4
    have hft := rfault_any h
    have hn4 := Lib.hid h.ok.n4
    have hokT := Lib.hid h.ok.tick
    clear hx h
    by_cases hk1 : S.kind = 1
    · have h1 : S.ans true = 9 := by simp [Dsk.ans, Dsk.err, ho, hk1]
      have h2 : S.synced = S.tick := by simp [Dsk.synced, Dsk.done, Dsk.ans, Dsk.err, Dsk.begun, ho, hk1]
      rw [h1, h2]
      rw [hk1] at hft
      clear ho h1 h2 hk1
      go_enter Try.func18, Try.ntmps18
      go_wp2_with (go_at_call 55; refine hft.mono ?_; rintro e w1 ⟨rfl, hrd, hf⟩)
      go_ret
      exact ⟨rfl, hrd, hf⟩
    · by_cases hk2 : S.kind = 2
      · have h1 : S.ans true = 10 := by simp [Dsk.ans, Dsk.err, Dsk.pow, ho, hk2]
        have h2 : S.synced = S.tick.cut := by simp [Dsk.synced, Dsk.done, Dsk.ans, Dsk.err, Dsk.pow, Dsk.begun, ho, hk2]
        rw [h1, h2]
        rw [hk2] at hft
        clear ho h1 h2 hk1 hk2
        go_enter Try.func18, Try.ntmps18
        go_wp2_with (go_at_call 55; refine hft.mono ?_; rintro e w1 ⟨rfl, hrd, hf⟩; obtain ⟨q1, q2, d1, d2, A', m', c', U1, U2, hy⟩ := hrd; have b4 := hy.e4; have g4 := hy.fr 4; have HY := Lib.hid hy; clear hy)
        go_ret
        obtain ⟨hcut, hfc⟩ := rcut_cell HY.out
        exact ⟨rfl, ⟨_, _, _, _, _, _, _, _, _, hcut⟩, hf.trans hfc fun b e => .inl (e ▸ HY.out.fa)⟩
      · have h1 : S.ans true = 0 := by simp [Dsk.ans, Dsk.err, Dsk.pow, ho, hk1, hk2]
        have h2 : S.synced = S.tick.flush := by simp [Dsk.synced, Dsk.done, Dsk.ans, Dsk.err, Dsk.pow, Dsk.begun, ho, hk1, hk2]
        rw [h1, h2]
        have hk1' : (S.kind == 1) = false := by simpa using hk1
        have hk2' : (S.kind == 2) = false := by simpa using hk2
        clear ho h1 h2 hk1 hk2
        generalize S.kind = kd at hft hk1' hk2'
        generalize S.tick = T at hft hokT ⊢
        go_enter Try.func18, Try.ntmps18
        go_wp2_with (go_at_call 55; refine hft.mono ?_; rintro e w1 ⟨rfl, hrd, hf⟩)
        go_loopw [3] (fun iv wr => ∃ (k : Nat), k ≤ n ∧ iv = .int .i64 k ∧ Hid (RD wr F a n (midS T k)) ∧ Hid (Frm F w wr)) (fun iv _ => ((n : Int) - RowKit.intOf iv).toNat)
        case atStart => exact ⟨0, Nat.zero_le _, rfl, by rw [midS_zero]; exact hrd, hf⟩
        case round =>
          obtain ⟨k, hk, rfl, HR, HF⟩ := hrel
          have hR1 := HR.out
          obtain ⟨r1, r2, c1, c2, A, m, c, V1, V2, hx⟩ := hR1
          have k0 := hx.e0
          have k1 := hx.e1
          have HX := Lib.hid hx
          by_cases hkn : k < n
          · have hd : decide ((k : Int) < (n : Int)) = true := by simpa using hkn
            have d1 := hx.row1.cell hkn
            have d2 := hx.row2.cell hkn
            have g1 := hx.row1.fr k
            have hv2 := hx.v2 k hkn
            rw [midS_ca] at hv2
            have hkni : (k : Int) < (n : Int) := by omega
            have hk4 : (k : Int) ≤ 4096 := by have := hn4.out; omega
            have hkw : wrap64 ((k : Int) + 1) = (k : Int) + 1 := by unfold wrap64; omega
            cases hc : T.ca k with
            | none =>
              rw [hc] at hv2
              have hv2' : V2 k = .slice none 0 0 := hv2
              rw [hv2'] at d2
              have q0 : ∀ W : World, (binOp .neq 32 (.slice none 0 0) (.slice none 0 0)).run Try.prog W = .ok (.bool false) W := fun W => run_neq_slice_nil_any W _ _ none 0 0 0 0 tyBs
              have hdn := Lib.hid (midS_none hc)
              clear hx hv2 hv2' hc hk d1 g1 k0
              go_wp2
              go_roundw
              case rel => exact ⟨k + 1, by omega, by go_num, by rw [hdn.out]; exact HR, HF⟩
              case measure => simp [RowKit.intOf]; omega
            | some xs =>
              rw [hc] at hv2
              obtain ⟨g, cg, ev, hFg, hog⟩ := (show Sl _ F (V2 k) xs from hv2)
              have hev := Lib.hid ev
              rw [ev] at d2
              have q0 : ∀ W : World, (binOp .neq 32 (.slice (some ⟨g, 0, none⟩) 64 cg) (.slice none 0 0)).run Try.prog W = .ok (.bool true) W := fun W => run_neq_slice_nil_any W _ _ (some ⟨g, 0, none⟩) 64 cg 0 0 tyBs
              have HC := Lib.hid hc
              have hx64 := Lib.hid (hokT.out.ca k xs hc).2
              clear hx hv2 hc hk ev hFg hog
              go_wp2
              go_still_tail 13, (by kernel_rfl)
              change wpList _ _ _ _ _ (World.drew _)
              have hx2 := HX.out.keep (G := fun _ => False) (Frm.of_below ((Below.refl wr.heap.size wr).drew)) fun _ h => h.elim
              have HF2 := Lib.hid (HF.out.trans' (Frm.of_below ((Below.refl wr.heap.size wr).drew)))
              generalize World.drew wr = D at *
              have e1 := hx2.row1.cell hkn
              have e2 := hx2.row1.fr k
              obtain ⟨hz, hfz⟩ := sync_mid hx2 hkn HC.out hx64.out
              rw [hev.out] at hz hfz
              clear k0 k1 d1 d2 g1
              refine wpList_store_set rfl rfl _ _ _ rfl ⟨r1, k, none⟩ (by exact rfl) (.slice (some ⟨g, 0, none⟩) 64 cg) (by exact rfl) rfl (by kernel_rfl) _ e1 e2 ?_
              clear e1 e2 hx2
              generalize D.setCell ⟨r1, k, none⟩ (.slice (some ⟨g, 0, none⟩) 64 cg) = D2 at *
              have k1 := hz.e1
              have d2 := hz.row2.cell hkn
              have g2 := hz.row2.fr k
              obtain ⟨hend, hfe⟩ := sync_mid2 hz hkn HC.out
              have HEND := Lib.hid hend
              have HFE := Lib.hid ((HF2.out.trans' hfz).trans' hfe)
              clear hz hend hfe hfz
              go_wp2
              go_roundw
              case rel => exact ⟨k + 1, by omega, by go_num, HEND, HFE⟩
              case measure => simp [RowKit.intOf]; omega
          · have hd : decide ((k : Int) < (n : Int)) = false := by simpa using hkn
            obtain rfl : k = n := by omega
            clear hx
            go_wp2
            go_ret
            exact ⟨rfl, by rw [← midS_end hokT.out]; exact HR.out, HF.out⟩

end Go.Proofs.Ytbknpfngboioeaa
