/-
  The program's values of package fields: the iterator that it hands back.
-/
import Derived.Test.YtmfoegpdjajicaaFeM
import Derived.Test.YtmfoegpdjajicaaFdA
import Derived.Test.YtmfoegpdjajicaaAsE
import Derived.Test.YtmfoegpdjajicaaClN
import Derived.Shelf.RegionOpen
import Derived.WalkKit
import Derived.OwnWalkIn
import Derived.TacticsInMore
import Derived.LoopNIn
import Derived.LoopIn
namespace Go.Proofs.Ytmfoegpdjajicaa
open Go.RowKit Go.Shelf
attribute [local go_sem] Oper.semAt_some

theorem values_any (A : Option Addr) (n c : Nat) (s : ByteArray) (w : World) : Calls Try.prog 34 #[.slice A n c, .string s] w fun e w' =>
    e = .returned (.func (.func 47) #[] #[.pointer (some ⟨w.heap.size, 0, none⟩), .pointer (some ⟨w.heap.size + 1, 0, none⟩)]) ∧
    w' = (w.alloc (.cells #[.slice A n c] 25)).alloc (.cells #[.string s] 9) := by
  go_enter Try.func34, Try.ntmps34
  go_wp2
  go_ret
  exact ⟨rfl, rfl⟩
theorem fall_pre (l : List Fv) (n : List UInt8) (k : Nat) : fall (l.take k) n <+: fall l n := by
  refine ⟨fall (l.drop k) n, ?_⟩
  unfold fall
  rw [← List.map_append, ← List.filter_append, List.take_append_drop]
/-- The blocks that the iterator reads. -/
def krV (B : Nat) (A : Option Addr) (n : Nat) : Nat → Prop := fun k => k = B + 1 ∨ (0 < n ∧ ∃ o, A = some ⟨k, o, none⟩)
theorem HasFd.held {w w' : World} {B n : Nat} {A : Option Addr} {l : List Fv} (h : HasFd w B A n l) (hk : ∀ k, (0 < n ∧ ∃ o, A = some ⟨k, o, none⟩) → w'.heap[k]? = w.heap[k]?) : HasFd w' B A n l :=
  ⟨h.1, fun hn => by
    obtain ⟨b, off, e, hb, hc⟩ := h.2 hn
    have hx := hk b ⟨hn, off, e⟩
    exact ⟨b, off, e, hb, fun j hj => ⟨(World.cell?_of_block (w := w) (a := ⟨b, off + j * 2, none⟩) hx).trans (hc j hj).1, (World.cell?_of_block (w := w) (a := ⟨b, off + j * 2 + 1, none⟩) hx).trans (hc j hj).2⟩⟩⟩

set_option maxRecDepth 100000 in
set_option maxHeartbeats 4000000 in
theorem values_it (B : Nat) (A : Option Addr) (c : Nat) (l : List Fv) (s : ByteArray) (hs : s.size ≤ 1000000000) (hl : l.length ≤ 1000000) (hz : ∀ x ∈ l, x.name.length ≤ 1000000000 ∧ x.value.length ≤ 1000000000) (W0 : World) (h1 : Boxed W0 B 25 (.slice A l.length c)) (h2 : Boxed W0 (B + 1) 9 (.string s)) (hH : HasFd W0 W0.heap.size A l.length l) :
    SeqC Try.prog 47 #[.pointer (some ⟨B, 0, none⟩), .pointer (some ⟨B + 1, 0, none⟩)] (fall l (ls s)) (krV B A l.length) W0 := by
  intro y J Jx C0 hJ hJx hBd hK hY h0
  refine (callsIn_wide (n := 0)).1 ?_
  refine callsIn_of_wp Try.func47 rfl trivial ?_ rfl
  simp only [Try.ntmps47, List.size_toArray, List.length_cons, List.length_nil, Nat.reduceAdd, Nat.reduceSub, Array.replicate_succ, Array.replicate_zero, List.push_toArray, List.append_toArray, List.nil_append, List.cons_append]
  have cB := h1.cell
  gi_wp2
  have HH := Lib.hid hH
  have HZ := Lib.hid hz
  have HK := Lib.hid hK
  have hB1 := (hK (B + 1) (.inl rfl)).1
  clear cB hH hz hK
  gi_loopw [8] (fun x wr => ∃ (k : Nat) (C : Nat → Prop), x = .int .i64 (k : Nat) ∧ k ≤ l.length ∧ J (fall (l.take k) (ls s)) C wr ∧ W0.heap.size ≤ wr.heap.size ∧ Hid (∀ q, krV B A l.length q → wr.heap[q]? = W0.heap[q]? ∧ ¬ C q))
    (fun x _ => l.length - (intOf x).toNat)
  case atStart => exact ⟨0, C0, rfl, Nat.zero_le _, h0, Nat.le_refl _, Lib.hid (fun q hq => ⟨rfl, (HK.out q hq).2⟩)⟩
  case round =>
    obtain ⟨k, C, rfl, hk, hj, hsz, HQ⟩ := hrel
    by_cases hlt : k < l.length
    · obtain ⟨b, off, rfl, hbb, d1, d2⟩ := (HH.out.held (w' := wr) fun q hq => (HQ.out q (.inr hq)).1).at_ hlt
      have hbx : Boxed wr (B + 1) 9 (.string s) := ((HQ.out (B + 1) (.inl rfl)).1).trans h2
      obtain ⟨hzn, hzv⟩ := HZ.out l[k] (List.getElem_mem hlt)
      have hsn := fall_snoc hlt (ls s)
      have hpre := fall_pre l (ls s) (k + 1)
      obtain ⟨N, hN⟩ : ∃ N, N = bs l[k].name := ⟨_, rfl⟩
      obtain ⟨V, hV⟩ : ∃ V, V = bs l[k].value := ⟨_, rfl⟩
      have hNs : N.size ≤ 1000000000 := by rw [hN, bs_size]; exact hzn
      have hVs : V.size ≤ 1000000000 := by rw [hV, bs_size]; exact hzv
      have hVl : ls V = l[k].value := by rw [hV, ls_bs]
      have hf : foldB N s = decide (lowL l[k].name = lowL (ls s)) := by
        unfold foldB
        rw [hN, ls_bs, Bool.eq_iff_iff]
        simp
      rw [← hN] at d1
      rw [← hV] at d2
      rw [← hVl] at hsn
      have ce := fun W => equalFold_any N s W hNs hs
      have cc := fun W => cl_any V W hVs
      rw [hf] at ce
      clear hN hV hf hzn hzv hVl
      have hr1 : RowFd (wr.alloc (.cells #[.string ⟨#[]⟩, .string ⟨#[]⟩] 44)) wr.heap.size ⟨#[]⟩ ⟨#[]⟩ := row_new wr _ _
      have hb1 := (Below.refl wr.heap.size wr).alloc (Nat.le_refl _) (.cells #[.string ⟨#[]⟩, .string ⟨#[]⟩] 44)
      have hj1 := hJ.below hj hb1
      have hza := World.size_alloc wr (.cells #[.string ⟨#[]⟩, .string ⟨#[]⟩] 44)
      have hnC : ¬ C wr.heap.size := fun h => by have := hBd _ _ _ hj _ h; omega
      gi_wp2_with (refine wpListIn_store_fd rfl rfl _ _ rfl wr.heap.size (by exact rfl) N V (by exact rfl) _ _ hr1 ?_; intro W9 hr9 hG9; have hj9 := hJ _ _ _ _ _ hj1 hG9 (fun r e => by cases e; exact ⟨hsz, hnC⟩); have hB9 : Below wr.heap.size wr W9 := hb1.grown hG9 (by omega) (fun r e => by cases e; exact Nat.le_refl _); have j0 := hr9.cells.1; have j1 := hr9.cells.2; have hbx9 := (hB9.block _ (by omega : B + 1 < wr.heap.size)).trans hbx; have jb := Boxed.cell hbx9)
      refine ⟨trivial, rfl, ?_⟩
      refine (callsIn_wide.2 (ce _)).mono ?_
      rintro e w2 ⟨rfl, hb2⟩
      have hl9 := Row.lt hr9
      have r2 : RowFd w2 wr.heap.size N V := Row.below hr9 hb2 hl9
      have hl2 := Row.lt r2
      have j0 := r2.cells.1
      have j1 := r2.cells.2
      have hB2 := hB9.trans (hb2.mono hB9.size)
      have hj2 := hJ.below hj9 hb2
      have hs2 := hB2.size
      clear hr9 hB9 hj9 hb2 ce d1 d2 hj1 hr1 hb1 hnC
      by_cases he : lowL l[k].name = lowL (ls s)
      · rw [if_pos he] at hsn
        rw [decide_eq_true he]
        have HS := Lib.hid hsn
        have HP : Hid (fall (l.take k) (ls s) ++ [ls V] <+: fall l (ls s)) := Lib.hid (hsn ▸ hpre)
        clear hsn hpre he
        gi_wp2_with fail
        refine ⟨trivial, rfl, ?_⟩
        refine (callsIn_wide.2 (cc _)).mono ?_
        rintro e w3 ⟨rfl, hb3⟩
        have hB3 := hB2.trans (hb3.mono hB2.size)
        have hj3 := hJ.below hj2 hb3
        have hs3 := hB3.size
        have HQ3 : Hid (∀ q, krV B (some ⟨b, off, none⟩) l.length q → w3.heap[q]? = W0.heap[q]? ∧ ¬ C q) := Lib.hid fun q hq => ⟨(hB3.block q (by have := (HK.out q hq).1; omega)).trans (HQ.out q hq).1, (HQ.out q hq).2⟩
        clear hb3 hj2 hB2 r2 hB3 HQ
        obtain ⟨fn, tmps, assign, body, hyy, hR⟩ := hY _ V C w3 hVs HP.out hj3
        gi_wp2_with fail
        refine ⟨rfl, ?_⟩
        refine (round_wide hR).mono ?_
        rintro e W4 ⟨C', hg, (⟨rfl, hJ4⟩ | ⟨rfl, hJx4⟩)⟩
        · have HQ4 : Hid (∀ q, krV B (some ⟨b, off, none⟩) l.length q → W4.heap[q]? = W0.heap[q]? ∧ ¬ C' q) := Lib.hid fun q hq => by
            have h1 := (HK.out q hq).1
            have h2 := HQ3.out q hq
            exact ⟨(hg.same q (by omega) h2.2).trans h2.1, hg.not (by omega) h2.2⟩
          have hs4 := hg.size
          gi_wp2
          go_roundw
          case rel => exact ⟨k + 1, C', by go_num, by omega, by rw [HS.out]; exact hJ4, by omega, HQ4⟩
          case measure => simp [intOf]; omega
        · gi_wp2
          (try simp only [Exit.inBlock, Exit.then])
          refine bodyPost_ret (results_none rfl _ _ _) rfl ?_
          exact ⟨⟨_, rfl⟩, C', .inr ⟨_, HP.out, hJx4⟩⟩
      · rw [if_neg he, List.append_nil] at hsn
        rw [decide_eq_false he]
        have HS := Lib.hid hsn
        have HQ3 : Hid (∀ q, krV B (some ⟨b, off, none⟩) l.length q → w2.heap[q]? = W0.heap[q]? ∧ ¬ C q) := Lib.hid fun q hq => ⟨(hB2.block q (by have := (HK.out q hq).1; omega)).trans (HQ.out q hq).1, (HQ.out q hq).2⟩
        clear hsn hpre he HQ
        gi_wp2
        go_roundw
        case rel => exact ⟨k + 1, C, by go_num, by omega, by rw [HS.out]; exact hj2, by omega, HQ3⟩
        case measure => simp [intOf]; omega
    · obtain rfl : k = l.length := by omega
      rw [List.take_length] at hj
      gi_wp2
      go_end0
      exact ⟨⟨_, rfl⟩, C, .inl hj⟩

end Go.Proofs.Ytmfoegpdjajicaa
