/-
The reference's New and Load: what they answer.
-/
import Derived.Test.YtbcfjkfkkklgbaaB12
import Derived.Test.YtbcfjkfkkklgbaaB09
import Derived.Deep.AppendLies
namespace Go.Proofs.Ytbcfjkfkkklgbaa
section
open Go.RowKit

theorem tyRows : Try.prog.underlying 22 = some (.slice 34) := by kernel_rfl
theorem infoBs : (Try.prog.info? 34).map (fun i => (i.zero, i.size, i.bytes)) = some (some (.slice none 0 0), 1, 24) := by kernel_rfl

set_option maxHeartbeats 800000 in
theorem refLoad_no (A : Option Addr) (len cap : Nat) (w : World) (hlen : len ≤ 1000000) (hs : len % 64 ≠ 0 ∨ possB ((len / 64 : Nat) : Int) = false) :
    Calls Try.prog 68 #[.slice A len cap] w fun e w' => e = .returned (.tuple #[.pointer none, .int .i64 2]) ∧ w = w' := by
  obtain ⟨q, hq⟩ : ∃ q : Nat, q = len / 64 := ⟨_, rfl⟩
  obtain ⟨r, hr⟩ : ∃ r : Nat, r = len % 64 := ⟨_, rfl⟩
  rw [← hq, ← hr] at hs
  have h1 : Int.tdiv (len : Int) 64 = (q : Int) := by rw [Int.tdiv_eq_ediv_of_nonneg (by omega)]; omega
  have h2 : Int.tmod (len : Int) 64 = (r : Int) := by rw [Int.tmod_eq_emod_of_nonneg (by omega)]; omega
  have h3 : wrap64 (q : Int) = q := by unfold wrap64; omega
  clear hq hr hlen
  by_cases hr0 : (r : Int) = 0
  · have hp : possB (q : Int) = false := by rcases hs with h | h; exact absurd (by omega) h; exact h
    by_cases hq1 : (q : Int) < 1
    · clear hs hp
      go_enter Try.func68, Try.ntmps68
      go_wp2
      go_ret2
      exact ⟨rfl, rfl⟩
    · have hq2 : (4096 : Int) < q := by simp [possB] at hp; omega
      clear hs hp
      go_enter Try.func68, Try.ntmps68
      go_wp2
      go_ret2
      exact ⟨rfl, rfl⟩
  · clear hs
    go_enter Try.func68, Try.ntmps68
    go_wp2
    go_ret2
    exact ⟨rfl, rfl⟩

/-- The reference's disk in the middle of a Load. -/
structure Half (w wr : World) (a k : Nat) (v c2 : Value) : Prop where
  a0 : w.heap.size ≤ a
  cells : wr.heap[a]? = some (.cells #[v, c2, .slice none 0 0, .int .i64 0, .bool false] 101 (0, 0))
  own : ∃ vals, wr.ownsRow w.heap.size 34 1 v k vals
  bel : Below w.heap.size w wr

theorem mk_rows (w : World) (n : Nat) (hn : n ≤ 4096) : (Instr.makeSlice 22 (.int .i64 (n : Int)) (.int .i64 (n : Int))).run Try.prog w =
    .ok (.slice (some ⟨w.heap.size, 0, none⟩) n n) (w.alloc (.cells (madeCells #[.slice none 0 0] n) 34)) := by
  obtain ⟨i, hi, hz0, hz1, hz2⟩ := info_parts infoBs
  have h := run_make (P := Try.prog) w 22 34 i (.slice none 0 0) tyRows hi hz0 .i64 .i64 n n (by omega) (by omega) (by rw [hz2]; omega) (by omega)
  rw [hz1] at h
  simpa [Value.cells] using h

theorem Half.below {w D W : World} {a k : Nat} {v c2 : Value} (h : Half w D a k v c2) (hb : Below D.heap.size D W) : Half w W a k v c2 :=
  ⟨h.a0, (hb.block a (lt_of_some h.cells)).trans h.cells, by obtain ⟨vals, ho⟩ := h.own; exact ⟨vals, own_below ho hb⟩, h.bel.trans (hb.mono h.bel.size)⟩
theorem Half.drew {w D : World} {a k : Nat} {v c2 : Value} (h : Half w D a k v c2) : Half w D.drew a k v c2 := h.below ((Below.refl _ _).drew)
theorem seg_src {w W : World} {B b off len x y n k : Nat} {l : List UInt8} (hA : Has w B (some ⟨b, off, none⟩) len (l.map bv)) (hb : Below w.heap.size w W) (hB : B ≤ w.heap.size) (hx : x = 64 * k ∧ y = x + 64) (hl : len = 64 * n) (hk : k < n) :
    (((l.drop x).take 64).map bv).length = (y - x) * 1 ∧ ∀ j u, (((l.drop x).take 64).map bv)[j]? = some u → W.cell? ((⟨b, off + x, none⟩ : Addr).add j) = some u := by
  have hll : l.length = len := by simpa using hA.1
  obtain ⟨rfl, rfl⟩ := hx
  refine ⟨by simp; omega, fun j u hj => ?_⟩
  have hjl := (List.getElem?_eq_some_iff.1 hj).1
  have hj64 : j < 64 := by simp at hjl; omega
  have hadd : (⟨b, off + 64 * k, none⟩ : Addr).add j = ⟨b, off + (64 * k + j), none⟩ := by
    unfold Addr.add
    split
    · subst j; simp
    · simp [Nat.add_assoc]
  obtain ⟨b', off', e, hbB, hc⟩ := hA.2 (by omega)
  injection e with e
  injection e with e1 e2
  subst e1 e2
  rw [hadd, hb.cell (p := ⟨b, off + (64 * k + j), none⟩) (by show b < _; omega), hc (64 * k + j) (by simp; omega), ← hj]
  simp only [List.getElem_map, List.getElem?_map, List.getElem?_take, hj64, if_true, List.getElem?_drop]
  rw [List.getElem?_eq_getElem (by omega)]
  rfl
theorem seg_pos {x y k : Nat} (h : x = 64 * k ∧ y = x + 64) : 0 < y - x := by omega
theorem seg_max {x y k : Nat} (h : x = 64 * k ∧ y = x + 64) : 0 + (y - x) ≤ maxLen := by unfold maxLen; omega
theorem seg_byt {x y k : Nat} (h : x = 64 * k ∧ y = x + 64) : (0 + (y - x)) * 1 ≤ 140737488355328 := by omega
theorem small_max {k n : Nat} (h : k < n) (hn : n ≤ 4096) : k + 1 ≤ maxLen := by unfold maxLen; omega
theorem small_byt {k n : Nat} (h : k < n) (hn : n ≤ 4096) : (k + 1) * 24 ≤ 140737488355328 := by omega
theorem one_src {W : World} {p : Nat} {u : Value} {t : TypeId} (h : W.heap[p]? = some (.cells #[u] t (0, 0))) : ∀ j z, [u][j]? = some z → W.cell? ((⟨p, 0, none⟩ : Addr).add j) = some z := by
  intro j z hj
  match j, hj with
  | 0, hj =>
    simp at hj
    subst hj
    have hadd : (⟨p, 0, none⟩ : Addr).add 0 = ⟨p, 0, none⟩ := by simp [Addr.add]
    rw [hadd]
    exact cell_of_row W p 0 _ _ _ h
theorem half_app {w W3 W4 : World} {a k : Nat} {v c2 : Value} {vals : List Value} (h : Half w W3 a k v c2) (ho : W3.ownsRow w.heap.size 34 1 v k vals) (hg : W3.grownBy W4 v.ownBlock) :
    W4.heap[a]? = some (.cells #[v, c2, .slice none 0 0, .int .i64 0, .bool false] 101 (0, 0)) ∧ Below w.heap.size w W4 := by
  refine ⟨(hg.block a (lt_of_some h.cells) fun e => ?_).trans h.cells, owns_below ho h.bel h.bel.size hg⟩
  rcases ho.2 with ⟨rfl, _⟩ | ⟨g, cap, cur, rfl, _, hr, _⟩
  · cases e
  · injection e with e
    subst e
    have := h.cells
    rw [hr] at this
    injection this with this
    injection this with _ this _
    cases this
theorem half_store {w W3 W4 : World} {a k g2 cap2 : Nat} {v c2 : Value} {vals : List Value} {u : Value} (h3 : Half w W3 a k v c2)
    (h4 : W4.heap[a]? = some (.cells #[v, c2, .slice none 0 0, .int .i64 0, .bool false] 101 (0, 0)) ∧ Below w.heap.size w W4)
    (ho : W4.ownsRow w.heap.size 34 1 (.slice (some ⟨g2, 0, none⟩) (k + 1) cap2) (k + 1) (vals ++ [u])) :
    Half w (W4.setCell ⟨a, 0, none⟩ (.slice (some ⟨g2, 0, none⟩) (k + 1) cap2)) a (k + 1) (.slice (some ⟨g2, 0, none⟩) (k + 1) cap2) c2 := by
  refine ⟨h3.a0, ?_, ⟨vals ++ [u], ho.1, ho.2.elim .inl fun ⟨g, cap, cur, e, hb, hr, r⟩ => .inr ⟨g, cap, cur, e, hb, ?_, r⟩⟩, h4.2.setCell h3.a0 _⟩
  · have := set_field (j := 0) (v := .slice (some ⟨g2, 0, none⟩) (k + 1) cap2) h4.1
    simpa using this
  · rw [Below.heap_setCell _ _ _ _ ?_]
    · exact hr
    · show g ≠ a
      rintro rfl
      rw [hr] at h4
      have := h4.1
      injection this with this
      injection this with _ this _
      cases this

set_option maxRecDepth 20000 in
set_option maxHeartbeats 3200000 in
theorem refLoad_yes (A : Option Addr) (len cap B n : Nat) (l : List UInt8) (w : World) (hA : Has w B A len (l.map bv)) (hB : B ≤ w.heap.size) (hn : len = 64 * n) (h1 : 1 ≤ n) (h4 : n ≤ 4096) (hcap : len ≤ cap) :
    Calls Try.prog 68 #[.slice A len cap] w fun e w' => ∃ a, e = .returned (.tuple #[.pointer (some ⟨a, 0, none⟩), .int .i64 0]) ∧ Below w.heap.size w w' := by
  have e1 : Int.tdiv (len : Int) 64 = (n : Int) := by rw [Int.tdiv_eq_ediv_of_nonneg (by omega)]; omega
  have e2 : Int.tmod (len : Int) 64 = 0 := by rw [Int.tmod_eq_emod_of_nonneg (by omega)]; omega
  have e3 : wrap64 (n : Int) = n := by unfold wrap64; omega
  have e4 : ¬ (n : Int) < 1 := by omega
  have e5 : ¬ (4096 : Int) < n := by omega
  have hmk := mk_rows w n h4
  obtain ⟨i5, hi5, hz0, hz1, hz2⟩ := info_parts infoU8
  obtain ⟨j5, hj5, hy0', hy1', hy2'⟩ := info_parts infoBs
  obtain ⟨b, off, rfl, hbB, hcell⟩ := hA.2 (by omega)
  have HA := Lib.hid hA
  have HL := Lib.hid hn
  have HC := Lib.hid hcap
  have hnb : (n : Int) ≤ 4096 := by omega
  have HB := Lib.hid (And.intro h4 hB)
  clear hcell hA hn h1 h4 hcap hB
  go_enter Try.func68, Try.ntmps68
  go_wp2
  obtain ⟨a, ea⟩ : ∃ a, a = w.heap.size + 1 := ⟨_, rfl⟩
  obtain ⟨c2, ec2⟩ : ∃ c2 : Value, c2 = .slice (some ⟨w.heap.size, 0, none⟩) n n := ⟨_, rfl⟩
  have hstart : Hid (Half w ((w.alloc (.cells (madeCells #[.slice none 0 0] n) 34)).alloc (.cells #[.slice none 0 0, .slice (some ⟨w.heap.size, 0, none⟩) n n, .slice none 0 0, .int .i64 0, .bool false] 101)) a 0 (.slice none 0 0) c2) := by
    refine ⟨by omega, ?_, ⟨[], rfl, .inl ⟨rfl, rfl⟩⟩, ((Below.refl _ _).alloc (Nat.le_refl _) _).alloc (by simp) _⟩
    rw [ea, ec2]
    have := heap_alloc_last (w.alloc (.cells (madeCells #[.slice none 0 0] n) 34)) (.cells #[.slice none 0 0, .slice (some ⟨w.heap.size, 0, none⟩) n n, .slice none 0 0, .int .i64 0, .bool false] 101)
    rwa [show (w.alloc (.cells (madeCells #[.slice none 0 0] n) 34)).heap.size = w.heap.size + 1 by simp] at this
  rw [← ea]
  generalize ((w.alloc (.cells (madeCells #[.slice none 0 0] n) 34)).alloc (.cells #[.slice none 0 0, .slice (some ⟨w.heap.size, 0, none⟩) n n, .slice none 0 0, .int .i64 0, .bool false] 101)) = w0 at *
  clear ea
  go_loopw [6] (fun i wr => ∃ k : Nat, k ≤ n ∧ i = .int .i64 k ∧ Hid (∃ v, Half w wr a k v c2)) (fun i _ => n - (RowKit.intOf i).toNat)
  case atStart => exact ⟨0, Nat.zero_le _, rfl, _, hstart.out⟩
  case round =>
    obtain ⟨k, hk, rfl, HR⟩ := hrel
    have hkb : (k : Int) ≤ 4096 := by omega
    by_cases hlt : k < n
    · obtain ⟨v, hh⟩ := HR.out
      obtain ⟨x, hx⟩ : ∃ x, x = 64 * k := ⟨_, rfl⟩
      have m1 : IntKind.i64.wrap ((k : Int) * 64) = (x : Int) := by rw [IntKind.wrap_i64]; omega
      have m2 : IntKind.i64.wrap ((k : Int) + 1) = (k : Int) + 1 := by rw [IntKind.wrap_i64]; omega
      obtain ⟨y, hy⟩ : ∃ y, y = x + 64 := ⟨_, rfl⟩
      have m3 : IntKind.i64.wrap (((k : Int) + 1) * 64) = (y : Int) := by rw [IntKind.wrap_i64]; omega
      have hd := Lib.hid hh
      have c0 : wr.drew.cell? ⟨a, 0, none⟩ = some v := cell_of_row wr.drew a 0 _ _ _ hh.cells
      have hyc : y ≤ cap := by have := HC.out; have := HL.out; omega
      have hyc' : (y : Int) ≤ (cap : Int) := by omega
      have hxy : x ≤ y := by omega
      have hxy' : (x : Int) ≤ (y : Int) := by omega
      have hy0 : (0 : Int) ≤ (y : Int) := by omega
      have hx0 : (0 : Int) ≤ (x : Int) := by omega
      have hcx : ¬ cap = x := by omega
      have HXY := Lib.hid (And.intro hx hy)
      clear hh HR hx hy
      go_wp2
      refine wp_region_any (by kernel_rfl) ?_
      change wpAny _ _ _ _ _ _ _ (World.drew _)
      refine any_take (i := 0) (v := ?_) rfl (by kernel_rfl) (by kernel_rfl) (by kernel_rfl) (fun _ _ _ h => h) (by exact rfl) (by intro w; go_simp; try with_reducible rfl) (fun K hK => ?_); go_simp; refine hK _ _ ?_; clear hK K
      refine any_take (i := 1) (v := ?_) rfl (by kernel_rfl) (by kernel_rfl) (by kernel_rfl) (fun _ _ _ h => h) (by exact rfl) (by intro w; go_simp; try with_reducible rfl) (fun K hK => ?_); go_simp; refine hK _ _ ?_; clear hK K
      refine any_take (i := 2) (v := ?_) rfl (by kernel_rfl) (by kernel_rfl) (by kernel_rfl) (fun _ _ _ h => h) (by exact rfl) (by intro w; go_simp; try with_reducible rfl) (fun K hK => ?_); go_simp; refine hK _ _ ?_; clear hK K
      refine any_take (i := 3) (v := ?_) rfl (by kernel_rfl) (by kernel_rfl) (by kernel_rfl) (fun _ _ _ h => h) (by exact rfl) (by intro w; go_simp; try with_reducible rfl) (fun K hK => ?_); go_simp; refine hK _ _ ?_; clear hK K
      refine any_take (i := 6) (v := ?_) rfl (by kernel_rfl) (by kernel_rfl) (by kernel_rfl) (fun _ _ _ h => h) (by exact rfl) (by intro w; go_simp; try with_reducible rfl) (fun K hK => ?_); go_simp; refine hK _ _ ?_; clear hK K
      refine any_take (i := 7) (v := ?_) rfl (by kernel_rfl) (by kernel_rfl) (by kernel_rfl) (fun _ _ _ h => h) (by exact rfl) (by intro w; go_simp; try with_reducible rfl) (fun K hK => ?_); go_simp; refine hK _ _ ?_; clear hK K
      refine any_take (i := 8) (v := ?_) rfl (by kernel_rfl) (by kernel_rfl) (by kernel_rfl) (fun _ _ _ h => h) (by exact rfl) (by intro w; go_simp; try with_reducible rfl) (fun K hK => ?_); go_simp; refine hK _ _ ?_; clear hK K
      refine any_take (i := 9) (v := ?_) rfl (by kernel_rfl) (by kernel_rfl) (by kernel_rfl) (fun _ _ _ h => h) (by exact rfl) (by intro w; go_simp; try with_reducible rfl) (fun K hK => ?_); go_simp; refine hK _ _ ?_; clear hK K
      refine any_take (i := 10) (v := ?_) rfl (by kernel_rfl) (by kernel_rfl) (by kernel_rfl) (fun _ _ _ h => h) (by exact rfl) (by intro w; go_simp; try with_reducible rfl) (fun K hK => ?_); go_simp; refine hK _ _ ?_; clear hK K
      refine any_take (i := 11) (v := ?_) rfl (by kernel_rfl) (by kernel_rfl) (by kernel_rfl) (fun _ _ _ h => h) (by exact rfl) (by intro w; go_simp; try with_reducible rfl) (fun K hK => ?_); go_simp; refine hK _ _ ?_; clear hK K
      try rw [m1]
      try rw [m2]
      try rw [m3]
      refine any_take (i := 12) (v := ?_) rfl (by kernel_rfl) (by kernel_rfl) (by kernel_rfl) (fun _ _ _ h => h) (by exact rfl) (by intro w; go_simp; try with_reducible rfl) (fun K hK => ?_); go_simp; refine hK _ _ ?_; clear hK K
      have hD := Lib.hid ((show Half w wr.drew a k v c2 from hd.out.drew))
      obtain ⟨vals, hvals⟩ := hD.out.own
      have hvals' := Lib.hid hvals
      clear hvals
      have bd0 : Below wr.drew.heap.size wr.drew wr.drew := Below.refl _ _
      have hszD : w.heap.size ≤ wr.drew.heap.size := hD.out.bel.size
      generalize wr.drew = D at *
      refine wpAny_ready (rs := [4, 5]) (by kernel_rfl) (by simp) ?_
      refine AllReady.cons rfl (fun K hK => ?_) (AllReady.cons rfl (fun K hK => ?_) AllReady.nil)
      · go_simp
        refine hK _ _ ?_
        clear hK K c0
        refine wpAny_ready (rs := [5]) (by kernel_rfl) (by simp) ?_
        refine AllReady.cons rfl (fun K hK => ?_) AllReady.nil
        go_simp
        refine hK _ _ ?_
        clear hK K
        have hown1 := own_empty D 5
        have hs1 : (D.alloc (.cells #[] 5)).heap.size = D.heap.size + 1 := by simp
        have bd1 := bd0.alloc bd0.size (.cells #[] 5)
        have hsrc1 := seg_src HA.out (hD.out.bel.trans (bd1.mono hszD)) HB.out.2 HXY.out HL.out hlt
        obtain ⟨base1, hbase1⟩ : ∃ z, z = D.heap.size := ⟨_, rfl⟩
        have hbd1 : D.heap.size ≤ base1 := by rw [hbase1]; exact bd0.size
        rw [← hbase1] at hown1 hs1 ⊢
        generalize D.alloc (.cells #[] 5) = W1 at *
        clear hbase1
        refine wpAny_ready (rs := [13]) (by kernel_rfl) (by simp) ?_
        refine AllReady.cons rfl (fun K hK => ?_) AllReady.nil
        refine step_append_lies _ rfl _ _ 34 (by exact rfl) base1 5 i5 (.int .u8 0) 1 1 tyBs hi5 hz0 hz1 hz2 rfl (by decide) _ 0 [] (by exact rfl) hown1 ⟨b, off + x, none⟩ (y - x) _ _ (by exact rfl) hsrc1.1 hsrc1.2 (one_bytes _) (seg_pos HXY.out) (seg_max HXY.out) (seg_byt HXY.out) (by rw [hs1]; exact Nat.le_succ _) _ rfl ?_
        intro g1 cap1 W2 hown2 hgr2 _ _
        refine hK _ _ ?_
        clear hK K hsrc1
        have bd2 := bd1.grown hgr2 (Nat.le_trans hbd1 (by rw [hs1]; exact Nat.le_succ _)) (fun z e => by rw [← Option.some.inj e]; exact hbd1)
        clear hown1 hgr2
        refine wpAny_ready (rs := [14]) (by kernel_rfl) (by simp) ?_
        refine AllReady.cons rfl (fun K hK => ?_) AllReady.nil
        go_simp
        refine hK _ _ ?_
        clear hK K
        have bd3 := bd2.alloc bd2.size (.cells #[.slice (some ⟨g1, 0, none⟩) (0 + (y - x)) cap1] 34)
        have hc3 : (W2.alloc (.cells #[.slice (some ⟨g1, 0, none⟩) (0 + (y - x)) cap1] 34)).heap[W2.heap.size]? = some (.cells #[.slice (some ⟨g1, 0, none⟩) (0 + (y - x)) cap1] 34 (0, 0)) := heap_alloc_last _ _
        try rw [Nat.zero_add] at hc3 bd3
        try rw [Nat.zero_add]
        generalize W2.heap.size = p3 at *
        generalize W2.alloc (.cells #[.slice (some ⟨g1, 0, none⟩) (y - x) cap1] 34) = W3 at *
        refine wpAny_ready (rs := [15]) (by kernel_rfl) (by simp) ?_
        refine AllReady.cons rfl (fun K hK => ?_) AllReady.nil
        have hH3 := hD.out.below bd3
        have hv3 := own_below hvals'.out bd3
        refine step_append_lies _ rfl _ _ 22 (by exact rfl) w.heap.size 34 j5 (.slice none 0 0) 1 24 tyRows hj5 hy0' hy1' hy2' rfl (by decide) v k vals (by exact rfl) hv3 ⟨p3, 0, none⟩ 1 1 [.slice (some ⟨g1, 0, none⟩) (y - x) cap1] (by exact rfl) rfl (one_src hc3) (fun u hu => by simp at hu; subst hu; rfl) (by decide) (small_max hlt HB.out.1) (small_byt hlt HB.out.1) hH3.bel.size _ rfl ?_
        intro g2 cap2 W4 hown4 hgr4 _ _
        refine hK _ _ ?_
        clear hK K hc3
        refine any_take (i := 16) (v := ?_) rfl (by kernel_rfl) (by kernel_rfl) (by kernel_rfl) (fun _ _ _ h => h) (by exact rfl) (by intro w; go_simp; try with_reducible rfl) (fun K hK => ?_); go_simp; refine hK _ _ ?_; clear hK K
        refine any_take (i := 17) (v := ?_) rfl (by kernel_rfl) (by kernel_rfl) (by kernel_rfl) (fun _ _ _ h => h) (by exact rfl) (by intro w; go_simp; try with_reducible rfl) (fun K hK => ?_); go_simp; refine hK _ _ ?_; clear hK K
        refine wpAny_ready (rs := [18]) (by kernel_rfl) (by simp) ?_
        refine AllReady.cons rfl (fun K hK => ?_) AllReady.nil
        have hH4 := half_app hH3 hv3 hgr4
        have fr4 : W4.frozen? ⟨a, 0, none⟩ = false := by simp [World.frozen?, hH4.1]
        have ce4 : W4.cell? ⟨a, 0, none⟩ = some v := cell_of_row W4 a 0 _ _ _ hH4.1
        go_simp
        refine hK _ _ ?_
        clear hK K
        refine wpAny_done (by kernel_rfl) ?_ _
        go_wp2
        go_roundw
        case rel => exact ⟨k + 1, by omega, by go_num, _, half_store hH3 hH4 hown4⟩
        case measure => simp [RowKit.intOf]; omega
      · go_simp
        refine hK _ _ ?_
        clear hK K
        have hown1 := own_empty D 5
        have hs1 : (D.alloc (.cells #[] 5)).heap.size = D.heap.size + 1 := by simp
        have bd1 := bd0.alloc bd0.size (.cells #[] 5)
        have hsrc1 := seg_src HA.out (hD.out.bel.trans (bd1.mono hszD)) HB.out.2 HXY.out HL.out hlt
        obtain ⟨base1, hbase1⟩ : ∃ z, z = D.heap.size := ⟨_, rfl⟩
        have hbd1 : D.heap.size ≤ base1 := by rw [hbase1]; exact bd0.size
        rw [← hbase1] at hown1 hs1 ⊢
        generalize D.alloc (.cells #[] 5) = W1 at *
        clear hbase1
        have c0 : W1.cell? ⟨a, 0, none⟩ = some v := cell_of_row W1 a 0 _ _ _ (hD.out.below bd1).cells
        refine wpAny_ready (rs := [4, 13]) (by kernel_rfl) (by simp) ?_
        refine AllReady.cons rfl (fun K hK => ?_) (AllReady.cons rfl (fun K hK => ?_) AllReady.nil)
        · go_simp
          refine hK _ _ ?_
          clear hK K c0
          refine wpAny_ready (rs := [13]) (by kernel_rfl) (by simp) ?_
          refine AllReady.cons rfl (fun K hK => ?_) AllReady.nil
          refine step_append_lies _ rfl _ _ 34 (by exact rfl) base1 5 i5 (.int .u8 0) 1 1 tyBs hi5 hz0 hz1 hz2 rfl (by decide) _ 0 [] (by exact rfl) hown1 ⟨b, off + x, none⟩ (y - x) _ _ (by exact rfl) hsrc1.1 hsrc1.2 (one_bytes _) (seg_pos HXY.out) (seg_max HXY.out) (seg_byt HXY.out) (by rw [hs1]; exact Nat.le_succ _) _ rfl ?_
          intro g1 cap1 W2 hown2 hgr2 _ _
          refine hK _ _ ?_
          clear hK K hsrc1
          have bd2 := bd1.grown hgr2 (Nat.le_trans hbd1 (by rw [hs1]; exact Nat.le_succ _)) (fun z e => by rw [← Option.some.inj e]; exact hbd1)
          clear hown1 hgr2
          refine wpAny_ready (rs := [14]) (by kernel_rfl) (by simp) ?_
          refine AllReady.cons rfl (fun K hK => ?_) AllReady.nil
          go_simp
          refine hK _ _ ?_
          clear hK K
          have bd3 := bd2.alloc bd2.size (.cells #[.slice (some ⟨g1, 0, none⟩) (0 + (y - x)) cap1] 34)
          have hc3 : (W2.alloc (.cells #[.slice (some ⟨g1, 0, none⟩) (0 + (y - x)) cap1] 34)).heap[W2.heap.size]? = some (.cells #[.slice (some ⟨g1, 0, none⟩) (0 + (y - x)) cap1] 34 (0, 0)) := heap_alloc_last _ _
          try rw [Nat.zero_add] at hc3 bd3
          try rw [Nat.zero_add]
          generalize W2.heap.size = p3 at *
          generalize W2.alloc (.cells #[.slice (some ⟨g1, 0, none⟩) (y - x) cap1] 34) = W3 at *
          refine wpAny_ready (rs := [15]) (by kernel_rfl) (by simp) ?_
          refine AllReady.cons rfl (fun K hK => ?_) AllReady.nil
          have hH3 := hD.out.below bd3
          have hv3 := own_below hvals'.out bd3
          refine step_append_lies _ rfl _ _ 22 (by exact rfl) w.heap.size 34 j5 (.slice none 0 0) 1 24 tyRows hj5 hy0' hy1' hy2' rfl (by decide) v k vals (by exact rfl) hv3 ⟨p3, 0, none⟩ 1 1 [.slice (some ⟨g1, 0, none⟩) (y - x) cap1] (by exact rfl) rfl (one_src hc3) (fun u hu => by simp at hu; subst hu; rfl) (by decide) (small_max hlt HB.out.1) (small_byt hlt HB.out.1) hH3.bel.size _ rfl ?_
          intro g2 cap2 W4 hown4 hgr4 _ _
          refine hK _ _ ?_
          clear hK K hc3
          refine any_take (i := 16) (v := ?_) rfl (by kernel_rfl) (by kernel_rfl) (by kernel_rfl) (fun _ _ _ h => h) (by exact rfl) (by intro w; go_simp; try with_reducible rfl) (fun K hK => ?_); go_simp; refine hK _ _ ?_; clear hK K
          refine any_take (i := 17) (v := ?_) rfl (by kernel_rfl) (by kernel_rfl) (by kernel_rfl) (fun _ _ _ h => h) (by exact rfl) (by intro w; go_simp; try with_reducible rfl) (fun K hK => ?_); go_simp; refine hK _ _ ?_; clear hK K
          refine wpAny_ready (rs := [18]) (by kernel_rfl) (by simp) ?_
          refine AllReady.cons rfl (fun K hK => ?_) AllReady.nil
          have hH4 := half_app hH3 hv3 hgr4
          have fr4 : W4.frozen? ⟨a, 0, none⟩ = false := by simp [World.frozen?, hH4.1]
          have ce4 : W4.cell? ⟨a, 0, none⟩ = some v := cell_of_row W4 a 0 _ _ _ hH4.1
          go_simp
          refine hK _ _ ?_
          clear hK K
          refine wpAny_done (by kernel_rfl) ?_ _
          go_wp2
          go_roundw
          case rel => exact ⟨k + 1, by omega, by go_num, _, half_store hH3 hH4 hown4⟩
          case measure => simp [RowKit.intOf]; omega
        · refine step_append_lies _ rfl _ _ 34 (by exact rfl) base1 5 i5 (.int .u8 0) 1 1 tyBs hi5 hz0 hz1 hz2 rfl (by decide) _ 0 [] (by exact rfl) hown1 ⟨b, off + x, none⟩ (y - x) _ _ (by exact rfl) hsrc1.1 hsrc1.2 (one_bytes _) (seg_pos HXY.out) (seg_max HXY.out) (seg_byt HXY.out) (by rw [hs1]; exact Nat.le_succ _) _ rfl ?_
          intro g1 cap1 W2 hown2 hgr2 _ _
          refine hK _ _ ?_
          clear hK K hsrc1
          have bd2 := bd1.grown hgr2 (Nat.le_trans hbd1 (by rw [hs1]; exact Nat.le_succ _)) (fun z e => by rw [← Option.some.inj e]; exact hbd1)
          clear hown1 hgr2
          have c0 : W2.cell? ⟨a, 0, none⟩ = some v := cell_of_row W2 a 0 _ _ _ (hD.out.below bd2).cells
          refine wpAny_ready (rs := [4, 14]) (by kernel_rfl) (by simp) ?_
          refine AllReady.cons rfl (fun K hK => ?_) (AllReady.cons rfl (fun K hK => ?_) AllReady.nil)
          · go_simp
            refine hK _ _ ?_
            clear hK K c0
            refine wpAny_ready (rs := [14]) (by kernel_rfl) (by simp) ?_
            refine AllReady.cons rfl (fun K hK => ?_) AllReady.nil
            go_simp
            refine hK _ _ ?_
            clear hK K
            have bd3 := bd2.alloc bd2.size (.cells #[.slice (some ⟨g1, 0, none⟩) (0 + (y - x)) cap1] 34)
            have hc3 : (W2.alloc (.cells #[.slice (some ⟨g1, 0, none⟩) (0 + (y - x)) cap1] 34)).heap[W2.heap.size]? = some (.cells #[.slice (some ⟨g1, 0, none⟩) (0 + (y - x)) cap1] 34 (0, 0)) := heap_alloc_last _ _
            try rw [Nat.zero_add] at hc3 bd3
            try rw [Nat.zero_add]
            generalize W2.heap.size = p3 at *
            generalize W2.alloc (.cells #[.slice (some ⟨g1, 0, none⟩) (y - x) cap1] 34) = W3 at *
            refine wpAny_ready (rs := [15]) (by kernel_rfl) (by simp) ?_
            refine AllReady.cons rfl (fun K hK => ?_) AllReady.nil
            have hH3 := hD.out.below bd3
            have hv3 := own_below hvals'.out bd3
            refine step_append_lies _ rfl _ _ 22 (by exact rfl) w.heap.size 34 j5 (.slice none 0 0) 1 24 tyRows hj5 hy0' hy1' hy2' rfl (by decide) v k vals (by exact rfl) hv3 ⟨p3, 0, none⟩ 1 1 [.slice (some ⟨g1, 0, none⟩) (y - x) cap1] (by exact rfl) rfl (one_src hc3) (fun u hu => by simp at hu; subst hu; rfl) (by decide) (small_max hlt HB.out.1) (small_byt hlt HB.out.1) hH3.bel.size _ rfl ?_
            intro g2 cap2 W4 hown4 hgr4 _ _
            refine hK _ _ ?_
            clear hK K hc3
            refine any_take (i := 16) (v := ?_) rfl (by kernel_rfl) (by kernel_rfl) (by kernel_rfl) (fun _ _ _ h => h) (by exact rfl) (by intro w; go_simp; try with_reducible rfl) (fun K hK => ?_); go_simp; refine hK _ _ ?_; clear hK K
            refine any_take (i := 17) (v := ?_) rfl (by kernel_rfl) (by kernel_rfl) (by kernel_rfl) (fun _ _ _ h => h) (by exact rfl) (by intro w; go_simp; try with_reducible rfl) (fun K hK => ?_); go_simp; refine hK _ _ ?_; clear hK K
            refine wpAny_ready (rs := [18]) (by kernel_rfl) (by simp) ?_
            refine AllReady.cons rfl (fun K hK => ?_) AllReady.nil
            have hH4 := half_app hH3 hv3 hgr4
            have fr4 : W4.frozen? ⟨a, 0, none⟩ = false := by simp [World.frozen?, hH4.1]
            have ce4 : W4.cell? ⟨a, 0, none⟩ = some v := cell_of_row W4 a 0 _ _ _ hH4.1
            go_simp
            refine hK _ _ ?_
            clear hK K
            refine wpAny_done (by kernel_rfl) ?_ _
            go_wp2
            go_roundw
            case rel => exact ⟨k + 1, by omega, by go_num, _, half_store hH3 hH4 hown4⟩
            case measure => simp [RowKit.intOf]; omega
          · go_simp
            refine hK _ _ ?_
            clear hK K
            have bd3 := bd2.alloc bd2.size (.cells #[.slice (some ⟨g1, 0, none⟩) (0 + (y - x)) cap1] 34)
            have hc3 : (W2.alloc (.cells #[.slice (some ⟨g1, 0, none⟩) (0 + (y - x)) cap1] 34)).heap[W2.heap.size]? = some (.cells #[.slice (some ⟨g1, 0, none⟩) (0 + (y - x)) cap1] 34 (0, 0)) := heap_alloc_last _ _
            try rw [Nat.zero_add] at hc3 bd3
            try rw [Nat.zero_add]
            generalize W2.heap.size = p3 at *
            generalize W2.alloc (.cells #[.slice (some ⟨g1, 0, none⟩) (y - x) cap1] 34) = W3 at *
            have c0 : W3.cell? ⟨a, 0, none⟩ = some v := cell_of_row W3 a 0 _ _ _ (hD.out.below bd3).cells
            refine wpAny_ready (rs := [4]) (by kernel_rfl) (by simp) ?_
            refine AllReady.cons rfl (fun K hK => ?_) AllReady.nil
            go_simp
            refine hK _ _ ?_
            clear hK K c0
            refine wpAny_ready (rs := [15]) (by kernel_rfl) (by simp) ?_
            refine AllReady.cons rfl (fun K hK => ?_) AllReady.nil
            have hH3 := hD.out.below bd3
            have hv3 := own_below hvals'.out bd3
            refine step_append_lies _ rfl _ _ 22 (by exact rfl) w.heap.size 34 j5 (.slice none 0 0) 1 24 tyRows hj5 hy0' hy1' hy2' rfl (by decide) v k vals (by exact rfl) hv3 ⟨p3, 0, none⟩ 1 1 [.slice (some ⟨g1, 0, none⟩) (y - x) cap1] (by exact rfl) rfl (one_src hc3) (fun u hu => by simp at hu; subst hu; rfl) (by decide) (small_max hlt HB.out.1) (small_byt hlt HB.out.1) hH3.bel.size _ rfl ?_
            intro g2 cap2 W4 hown4 hgr4 _ _
            refine hK _ _ ?_
            clear hK K hc3
            refine any_take (i := 16) (v := ?_) rfl (by kernel_rfl) (by kernel_rfl) (by kernel_rfl) (fun _ _ _ h => h) (by exact rfl) (by intro w; go_simp; try with_reducible rfl) (fun K hK => ?_); go_simp; refine hK _ _ ?_; clear hK K
            refine any_take (i := 17) (v := ?_) rfl (by kernel_rfl) (by kernel_rfl) (by kernel_rfl) (fun _ _ _ h => h) (by exact rfl) (by intro w; go_simp; try with_reducible rfl) (fun K hK => ?_); go_simp; refine hK _ _ ?_; clear hK K
            refine wpAny_ready (rs := [18]) (by kernel_rfl) (by simp) ?_
            refine AllReady.cons rfl (fun K hK => ?_) AllReady.nil
            have hH4 := half_app hH3 hv3 hgr4
            have fr4 : W4.frozen? ⟨a, 0, none⟩ = false := by simp [World.frozen?, hH4.1]
            have ce4 : W4.cell? ⟨a, 0, none⟩ = some v := cell_of_row W4 a 0 _ _ _ hH4.1
            go_simp
            refine hK _ _ ?_
            clear hK K
            refine wpAny_done (by kernel_rfl) ?_ _
            go_wp2
            go_roundw
            case rel => exact ⟨k + 1, by omega, by go_num, _, half_store hH3 hH4 hown4⟩
            case measure => simp [RowKit.intOf]; omega
    · have hkn : k = n := by omega
      obtain ⟨v, hh⟩ := HR.out
      have hbel := hh.bel
      clear HR hh
      go_wp2
      go_ret2
      exact ⟨a, rfl, hbel⟩
end

end Go.Proofs.Ytbcfjkfkkklgbaa
