/-
The reference's Load, with what stands on the disk.
The contract of the reference's New; the two disks' operations, one statement each.
Read of both disks in one statement each; keep.Ints.
-/
import Derived.Test.YtbcfjkfkkklgbaaB14
import Derived.Test.YtbcfjkfkkklgbaaB15
import Derived.Laws.OwnMore
namespace Go.Proofs.Ytbcfjkfkkklgbaa
section
open Go.RowKit

/-- A value that leads to 64 bytes of its own. -/
def Sg (w : World) (B : Nat) (u : Value) (xs : List UInt8) : Prop := ∃ g c, u = .slice (some ⟨g, 0, none⟩) 64 c ∧ B ≤ g ∧ Own8 w g c 64 xs
theorem Sg.keep {w w' : World} {B : Nat} {u : Value} {xs : List UInt8} (h : Sg w B u xs) (hk : ∀ (b : Nat) (cs : Array Value), w.heap[b]? = some (.cells cs 5 (0, 0)) → w'.heap[b]? = some (.cells cs 5 (0, 0))) : Sg w' B u xs := by
  obtain ⟨g, c, e, hB, cur, hr, r⟩ := h
  exact ⟨g, c, e, hB, cur, hk g cur hr, r⟩
theorem Sg.below {w w' : World} {B : Nat} {u : Value} {xs : List UInt8} (h : Sg w B u xs) (hb : Below w.heap.size w w') : Sg w' B u xs := h.keep fun b _ ho => (hb.block b (lt_of_some ho)).trans ho
theorem sg_own {W2 : World} {base1 B g1 cap1 x y k : Nat} {l : List UInt8} (ho : W2.ownsRow base1 5 1 (.slice (some ⟨g1, 0, none⟩) (0 + (y - x)) cap1) (0 + (y - x)) ([] ++ ((l.drop x).take 64).map bv)) (hxy : x = 64 * k ∧ y = x + 64) (hB : B ≤ base1) :
    Sg W2 B (.slice (some ⟨g1, 0, none⟩) (y - x) cap1) (stOf l k) := by
  obtain ⟨rfl, rfl⟩ := hxy
  rw [Nat.zero_add, List.nil_append, show 64 * k + 64 - 64 * k = 64 by omega] at ho
  rw [show 64 * k + 64 - 64 * k = 64 by omega]
  obtain ⟨g, c, e, hb, h⟩ := Own8.of ho (by omega)
  exact ⟨g, c, e, Nat.le_trans hB hb, h⟩

/-- The reference's disk in the middle of a Load. -/
structure Hlf (l : List UInt8) (n : Nat) (w wr : World) (a k : Nat) (v c2 : Value) : Prop where
  ae : a = w.heap.size + 1
  ce : c2 = .slice (some ⟨w.heap.size, 0, none⟩) n n
  cells : wr.heap[a]? = some (.cells #[v, c2, .slice none 0 0, .int .i64 0, .bool false] 101 (0, 0))
  row : wr.heap[w.heap.size]? = some (.cells (madeCells #[.slice none 0 0] n) 34 (0, 0))
  own : ∃ vals, wr.ownsRow (w.heap.size + 2) 34 1 v k vals ∧ ∀ i u, vals[i]? = some u → Sg wr w.heap.size u (stOf l i)
  bel : Below w.heap.size w wr
theorem Hlf.sz2 {l : List UInt8} {n : Nat} {w wr : World} {a k : Nat} {v c2 : Value} (h : Hlf l n w wr a k v c2) : w.heap.size + 2 ≤ wr.heap.size := by
  have := lt_of_some h.cells
  have := h.ae
  omega
theorem Hlf.below {l : List UInt8} {n : Nat} {w D W : World} {a k : Nat} {v c2 : Value} (h : Hlf l n w D a k v c2) (hb : Below D.heap.size D W) : Hlf l n w W a k v c2 :=
  ⟨h.ae, h.ce, (hb.block a (lt_of_some h.cells)).trans h.cells, (hb.block _ (lt_of_some h.row)).trans h.row, by obtain ⟨vals, ho, hs⟩ := h.own; exact ⟨vals, own_below ho hb, fun i u hi => (hs i u hi).below hb⟩, h.bel.trans (hb.mono h.bel.size)⟩
theorem Hlf.drew {l : List UInt8} {n : Nat} {w D : World} {a k : Nat} {v c2 : Value} (h : Hlf l n w D a k v c2) : Hlf l n w D.drew a k v c2 := h.below ((Below.refl _ _).drew)
theorem hlf_kept {w W3 W4 : World} {k : Nat} {v : Value} {vals : List Value} (ho : W3.ownsRow (w.heap.size + 2) 34 1 v k vals) (hg : W3.grownBy W4 v.ownBlock) (b : Nat) (cs : Array Value) (t : TypeId) (ht : t ≠ 34 ∨ b < w.heap.size + 2)
    (hb : W3.heap[b]? = some (.cells cs t (0, 0))) : W4.heap[b]? = some (.cells cs t (0, 0)) := by
  refine (hg.block b (lt_of_some hb) fun e => ?_).trans hb
  rcases ho.2 with ⟨rfl, _⟩ | ⟨g, cap, cur, rfl, hbg, hr, _⟩
  · cases e
  · injection e with e
    subst e
    rcases ht with ht | ht
    · rw [hr] at hb
      injection hb with hb
      injection hb with _ hb _
      exact ht hb.symm
    · have : w.heap.size + 2 ≤ b := hbg
      omega
theorem hlf_app {l : List UInt8} {n : Nat} {w W3 W4 : World} {a k : Nat} {v c2 : Value} {vals : List Value} (h : Hlf l n w W3 a k v c2) (ho : W3.ownsRow (w.heap.size + 2) 34 1 v k vals) (hg : W3.grownBy W4 v.ownBlock) :
    W4.heap[a]? = some (.cells #[v, c2, .slice none 0 0, .int .i64 0, .bool false] 101 (0, 0)) ∧ Below w.heap.size w W4 :=
  ⟨hlf_kept ho hg _ _ _ (.inl (by decide)) h.cells, h.bel.grown hg h.bel.size fun z e => Nat.le_trans (by omega) (ho.lt z e).1⟩
theorem hlf_store {l : List UInt8} {n : Nat} {w W3 W4 : World} {a k g2 cap2 : Nat} {v c2 : Value} {vals : List Value} {u : Value} (h3 : Hlf l n w W3 a k v c2) (ho3 : W3.ownsRow (w.heap.size + 2) 34 1 v k vals)
    (hsg : ∀ i u, vals[i]? = some u → Sg W3 w.heap.size u (stOf l i)) (hg : W3.grownBy W4 v.ownBlock)
    (h4 : W4.heap[a]? = some (.cells #[v, c2, .slice none 0 0, .int .i64 0, .bool false] 101 (0, 0)) ∧ Below w.heap.size w W4)
    (ho : W4.ownsRow (w.heap.size + 2) 34 1 (.slice (some ⟨g2, 0, none⟩) (k + 1) cap2) (k + 1) (vals ++ [u])) (hu : Sg W3 w.heap.size u (stOf l k)) :
    Hlf l n w (W4.setCell ⟨a, 0, none⟩ (.slice (some ⟨g2, 0, none⟩) (k + 1) cap2)) a (k + 1) (.slice (some ⟨g2, 0, none⟩) (k + 1) cap2) c2 := by
  have hset : ∀ (b : Nat) (cs : Array Value) (t : TypeId), t ≠ 101 → W4.heap[b]? = some (.cells cs t (0, 0)) → (W4.setCell ⟨a, 0, none⟩ (.slice (some ⟨g2, 0, none⟩) (k + 1) cap2)).heap[b]? = some (.cells cs t (0, 0)) := by
    intro b cs t ht hb
    rw [Below.heap_setCell _ _ _ _ ?_]
    · exact hb
    · show b ≠ a
      rintro rfl
      rw [hb] at h4
      have := h4.1
      injection this with this
      injection this with _ this _
      exact ht this
  have hsk : ∀ {x : Value} {xs : List UInt8}, Sg W3 w.heap.size x xs → Sg (W4.setCell ⟨a, 0, none⟩ (.slice (some ⟨g2, 0, none⟩) (k + 1) cap2)) w.heap.size x xs := fun h => h.keep fun b cs hb => hset b cs 5 (by decide) (hlf_kept ho3 hg b cs 5 (.inl (by decide)) hb)
  have hlen : vals.length = k := by have := ho3.1; omega
  refine ⟨h3.ae, h3.ce, ?_, hset _ _ 34 (by decide) (hlf_kept ho3 hg _ _ 34 (.inr (by omega)) h3.row), ⟨vals ++ [u], ⟨ho.1, ho.2.elim .inl fun ⟨g, cap, cur, e, hb, hr, r⟩ => .inr ⟨g, cap, cur, e, hb, hset _ _ 34 (by decide) hr, r⟩⟩, ?_⟩, h4.2.setCell (by have := h3.ae; show w.heap.size ≤ a; omega) _⟩
  · have := set_field (j := 0) (v := .slice (some ⟨g2, 0, none⟩) (k + 1) cap2) h4.1
    simpa using this
  · intro i x hi
    by_cases hik : i < k
    · rw [List.getElem?_append_left (by omega)] at hi
      exact hsk (hsg i x hi)
    · have hil := (List.getElem?_eq_some_iff.1 hi).1
      simp at hil
      obtain rfl : i = k := by omega
      rw [List.getElem?_append_right (by omega), hlen, Nat.sub_self] at hi
      simp at hi
      subst hi
      exact hsk hu
theorem hlf_disk {l : List UInt8} {n : Nat} {w wr : World} {a : Nat} {v c2 : Value} (h : Hlf l n w wr a n v c2) (hl : l.length = 64 * n) (h1 : 1 ≤ n) (h4 : n ≤ 4096) : RD wr (newF w wr) a n (Dsk.fresh (stOf l)) := by
  obtain ⟨vals, ho, hs⟩ := h.own
  rcases ho.2 with ⟨_, h0⟩ | ⟨g, cap, cur, rfl, hb, hr, hnc, _, hsz, ht⟩
  · omega
  · have hce := h.ce
    subst hce
    have hlen : vals.length = n := by have := ho.1; omega
    have hget : ∀ i, i < n → ∃ u, vals[i]? = some u ∧ cur[i]? = some u := fun i hi => by
      have h1 : vals[i]? = some vals[i] := List.getElem?_eq_getElem (by omega)
      refine ⟨vals[i], h1, ?_⟩
      rw [← h1, ← ht, List.getElem?_take_of_lt (by omega)]
      simp
    have hga := h.ae
    refine ⟨g, w.heap.size, cap, n, none, 0, 0, fun i => (vals[i]?).getD undef, fun _ => .slice none 0 0, Dsk.Ok.fresh h1 h4 (stOf_len hl), h.cells, ⟨cur, hr, fun i hi => ?_⟩, ⟨_, h.row, fun i hi => ?_⟩, by omega, fun i hi => ?_, fun i hi => rfl, ⟨rfl, fun h => absurd h (by omega)⟩, by omega, ⟨by omega, lt_of_some h.cells⟩, ⟨by omega, lt_of_some hr⟩, ⟨Nat.le_refl _, lt_of_some h.row⟩, fun k hk => hk.2⟩
    · obtain ⟨u, h1, h2⟩ := hget i hi
      rw [h2]
      simp only [h1, Option.getD_some]
    · rw [← Array.getElem?_toList, toList_madeCells_one]
      simp [hi]
    · obtain ⟨u, h1, _⟩ := hget i hi
      simp only [h1, Option.getD_some]
      obtain ⟨g', c', e, hB, hog⟩ := hs i u h1
      obtain ⟨cu, hru, r⟩ := id hog
      exact ⟨g', c', e, ⟨hB, lt_of_some hru⟩, hog⟩

set_option maxRecDepth 20000 in
set_option maxHeartbeats 3200000 in
theorem rload_any (A : Option Addr) (len cap B n : Nat) (l : List UInt8) (w : World) (hA : Has w B A len (l.map bv)) (hB : B ≤ w.heap.size) (hn : len = 64 * n) (h1 : 1 ≤ n) (h4 : n ≤ 4096) (hcap : len ≤ cap) :
    Calls Try.prog 68 #[.slice A len cap] w fun e w' => ∃ a, e = .returned (.tuple #[.pointer (some ⟨a, 0, none⟩), .int .i64 0]) ∧ RD w' (newF w w') a n (Dsk.fresh (stOf l)) ∧ Below w.heap.size w w' := by
  have e1 : Int.tdiv (len : Int) 64 = (n : Int) := by rw [Int.tdiv_eq_ediv_of_nonneg (by omega)]; omega
  have e2 : Int.tmod (len : Int) 64 = 0 := by rw [Int.tmod_eq_emod_of_nonneg (by omega)]; omega
  have e3 : wrap64 (n : Int) = n := by unfold wrap64; omega
  have e4 : ¬ (n : Int) < 1 := by omega
  have e5 : ¬ (4096 : Int) < n := by omega
  have hmk := mk_rows w n h4
  obtain ⟨i5, hi5, hz0, hz1, hz2⟩ := info_parts infoU8
  obtain ⟨j5, hj5, hy0', hy1', hy2'⟩ := info_parts infoBs
  obtain ⟨b, off, rfl, hbB, hcell⟩ := hA.2 (by omega)
  have HA := Lib.hid hA
  have HL := Lib.hid hn
  have HC := Lib.hid hcap
  have H1 := Lib.hid h1
  have hnb : (n : Int) ≤ 4096 := by omega
  have HB := Lib.hid (And.intro h4 hB)
  clear hcell hA hn h1 h4 hcap hB
  go_enter Try.func68, Try.ntmps68
  go_wp2
  obtain ⟨a, ea⟩ : ∃ a, a = w.heap.size + 1 := ⟨_, rfl⟩
  obtain ⟨c2, ec2⟩ : ∃ c2 : Value, c2 = .slice (some ⟨w.heap.size, 0, none⟩) n n := ⟨_, rfl⟩
  have hstart : Hid (Hlf l n w ((w.alloc (.cells (madeCells #[.slice none 0 0] n) 34)).alloc (.cells #[.slice none 0 0, .slice (some ⟨w.heap.size, 0, none⟩) n n, .slice none 0 0, .int .i64 0, .bool false] 101)) a 0 (.slice none 0 0) c2) := by
    refine ⟨ea, ec2, ?_, ?_, ⟨[], ⟨rfl, .inl ⟨rfl, rfl⟩⟩, fun i u h => by simp at h⟩, ((Below.refl _ _).alloc (Nat.le_refl _) _).alloc (by simp) _⟩
    · rw [ea, ec2]
      have := heap_alloc_last (w.alloc (.cells (madeCells #[.slice none 0 0] n) 34)) (.cells #[.slice none 0 0, .slice (some ⟨w.heap.size, 0, none⟩) n n, .slice none 0 0, .int .i64 0, .bool false] 101)
      rwa [show (w.alloc (.cells (madeCells #[.slice none 0 0] n) 34)).heap.size = w.heap.size + 1 by simp] at this
    · have h0 := heap_alloc_last w (.cells (madeCells #[.slice none 0 0] n) 34)
      have hb := (Below.refl _ (w.alloc (.cells (madeCells #[.slice none 0 0] n) 34))).alloc (Nat.le_refl _) (.cells #[.slice none 0 0, .slice (some ⟨w.heap.size, 0, none⟩) n n, .slice none 0 0, .int .i64 0, .bool false] 101)
      exact (hb.block _ (by simp)).trans h0
  rw [← ea]
  generalize ((w.alloc (.cells (madeCells #[.slice none 0 0] n) 34)).alloc (.cells #[.slice none 0 0, .slice (some ⟨w.heap.size, 0, none⟩) n n, .slice none 0 0, .int .i64 0, .bool false] 101)) = w0 at *
  clear ea
  go_loopw [6] (fun i wr => ∃ k : Nat, k ≤ n ∧ i = .int .i64 k ∧ Hid (∃ v, Hlf l n w wr a k v c2)) (fun i _ => n - (RowKit.intOf i).toNat)
  case atStart => exact ⟨0, Nat.zero_le _, rfl, _, hstart.out⟩
  case round =>
    obtain ⟨k, hk, rfl, HR⟩ := hrel
    have hkb : (k : Int) ≤ 4096 := by omega
    by_cases hlt : k < n
    · obtain ⟨v, hh⟩ := HR.out
      obtain ⟨x, hx⟩ : ∃ x, x = 64 * k := ⟨_, rfl⟩
      have m1 : IntKind.i64.wrap ((k : Int) * 64) = (x : Int) := by rw [IntKind.wrap_i64]; omega
      have m2 : IntKind.i64.wrap ((k : Int) + 1) = (k : Int) + 1 := by rw [IntKind.wrap_i64]; omega
      obtain ⟨y, hy⟩ : ∃ y, y = x + 64 := ⟨_, rfl⟩
      have m3 : IntKind.i64.wrap (((k : Int) + 1) * 64) = (y : Int) := by rw [IntKind.wrap_i64]; omega
      have hd := Lib.hid hh
      have c0 : wr.drew.cell? ⟨a, 0, none⟩ = some v := cell_of_row wr.drew a 0 _ _ _ hh.cells
      have hyc : y ≤ cap := by have := HC.out; have := HL.out; omega
      have hyc' : (y : Int) ≤ (cap : Int) := by omega
      have hxy : x ≤ y := by omega
      have hxy' : (x : Int) ≤ (y : Int) := by omega
      have hy0 : (0 : Int) ≤ (y : Int) := by omega
      have hx0 : (0 : Int) ≤ (x : Int) := by omega
      have hcx : ¬ cap = x := by omega
      have HXY := Lib.hid (And.intro hx hy)
      clear hh HR hx hy
      go_wp2
      refine wp_region_any (by kernel_rfl) ?_
      change wpAny _ _ _ _ _ _ _ (World.drew _)
      refine any_take (i := 0) (v := ?_) rfl (by kernel_rfl) (by kernel_rfl) (by kernel_rfl) (fun _ _ _ h => h) (by exact rfl) (by intro w; go_simp; try with_reducible rfl) (fun K hK => ?_); go_simp; refine hK _ _ ?_; clear hK K
      refine any_take (i := 1) (v := ?_) rfl (by kernel_rfl) (by kernel_rfl) (by kernel_rfl) (fun _ _ _ h => h) (by exact rfl) (by intro w; go_simp; try with_reducible rfl) (fun K hK => ?_); go_simp; refine hK _ _ ?_; clear hK K
      refine any_take (i := 2) (v := ?_) rfl (by kernel_rfl) (by kernel_rfl) (by kernel_rfl) (fun _ _ _ h => h) (by exact rfl) (by intro w; go_simp; try with_reducible rfl) (fun K hK => ?_); go_simp; refine hK _ _ ?_; clear hK K
      refine any_take (i := 3) (v := ?_) rfl (by kernel_rfl) (by kernel_rfl) (by kernel_rfl) (fun _ _ _ h => h) (by exact rfl) (by intro w; go_simp; try with_reducible rfl) (fun K hK => ?_); go_simp; refine hK _ _ ?_; clear hK K
      refine any_take (i := 6) (v := ?_) rfl (by kernel_rfl) (by kernel_rfl) (by kernel_rfl) (fun _ _ _ h => h) (by exact rfl) (by intro w; go_simp; try with_reducible rfl) (fun K hK => ?_); go_simp; refine hK _ _ ?_; clear hK K
      refine any_take (i := 7) (v := ?_) rfl (by kernel_rfl) (by kernel_rfl) (by kernel_rfl) (fun _ _ _ h => h) (by exact rfl) (by intro w; go_simp; try with_reducible rfl) (fun K hK => ?_); go_simp; refine hK _ _ ?_; clear hK K
      refine any_take (i := 8) (v := ?_) rfl (by kernel_rfl) (by kernel_rfl) (by kernel_rfl) (fun _ _ _ h => h) (by exact rfl) (by intro w; go_simp; try with_reducible rfl) (fun K hK => ?_); go_simp; refine hK _ _ ?_; clear hK K
      refine any_take (i := 9) (v := ?_) rfl (by kernel_rfl) (by kernel_rfl) (by kernel_rfl) (fun _ _ _ h => h) (by exact rfl) (by intro w; go_simp; try with_reducible rfl) (fun K hK => ?_); go_simp; refine hK _ _ ?_; clear hK K
      refine any_take (i := 10) (v := ?_) rfl (by kernel_rfl) (by kernel_rfl) (by kernel_rfl) (fun _ _ _ h => h) (by exact rfl) (by intro w; go_simp; try with_reducible rfl) (fun K hK => ?_); go_simp; refine hK _ _ ?_; clear hK K
      refine any_take (i := 11) (v := ?_) rfl (by kernel_rfl) (by kernel_rfl) (by kernel_rfl) (fun _ _ _ h => h) (by exact rfl) (by intro w; go_simp; try with_reducible rfl) (fun K hK => ?_); go_simp; refine hK _ _ ?_; clear hK K
      try rw [m1]
      try rw [m2]
      try rw [m3]
      refine any_take (i := 12) (v := ?_) rfl (by kernel_rfl) (by kernel_rfl) (by kernel_rfl) (fun _ _ _ h => h) (by exact rfl) (by intro w; go_simp; try with_reducible rfl) (fun K hK => ?_); go_simp; refine hK _ _ ?_; clear hK K
      have hD := Lib.hid ((show Hlf l n w wr.drew a k v c2 from hd.out.drew))
      obtain ⟨vals, hvals, hsg⟩ := hD.out.own
      have HSG := Lib.hid hsg
      clear hsg
      have hvals' := Lib.hid hvals
      clear hvals
      have bd0 : Below wr.drew.heap.size wr.drew wr.drew := Below.refl _ _
      have hszD : w.heap.size ≤ wr.drew.heap.size := hD.out.bel.size
      generalize wr.drew = D at *
      refine wpAny_ready (rs := [4, 5]) (by kernel_rfl) (by simp) ?_
      refine AllReady.cons rfl (fun K hK => ?_) (AllReady.cons rfl (fun K hK => ?_) AllReady.nil)
      · go_simp
        refine hK _ _ ?_
        clear hK K c0
        refine wpAny_ready (rs := [5]) (by kernel_rfl) (by simp) ?_
        refine AllReady.cons rfl (fun K hK => ?_) AllReady.nil
        go_simp
        refine hK _ _ ?_
        clear hK K
        have hown1 := own_empty D 5
        have hs1 : (D.alloc (.cells #[] 5)).heap.size = D.heap.size + 1 := by simp
        have bd1 := bd0.alloc bd0.size (.cells #[] 5)
        have hsrc1 := seg_src HA.out (hD.out.bel.trans (bd1.mono hszD)) HB.out.2 HXY.out HL.out hlt
        obtain ⟨base1, hbase1⟩ : ∃ z, z = D.heap.size := ⟨_, rfl⟩
        have hbd1 : D.heap.size ≤ base1 := by rw [hbase1]; exact bd0.size
        rw [← hbase1] at hown1 hs1 ⊢
        generalize D.alloc (.cells #[] 5) = W1 at *
        clear hbase1
        refine wpAny_ready (rs := [13]) (by kernel_rfl) (by simp) ?_
        refine AllReady.cons rfl (fun K hK => ?_) AllReady.nil
        refine step_append_lies _ rfl _ _ 34 (by exact rfl) base1 5 i5 (.int .u8 0) 1 1 tyBs hi5 hz0 hz1 hz2 rfl (by decide) _ 0 [] (by exact rfl) hown1 ⟨b, off + x, none⟩ (y - x) _ _ (by exact rfl) hsrc1.1 hsrc1.2 (one_bytes _) (seg_pos HXY.out) (seg_max HXY.out) (seg_byt HXY.out) (by rw [hs1]; exact Nat.le_succ _) _ rfl ?_
        intro g1 cap1 W2 hown2 hgr2 _ _
        have hsl2 := sg_own (l := l) hown2 HXY.out (Nat.le_trans hszD hbd1)
        refine hK _ _ ?_
        clear hK K hsrc1
        have bd2 := bd1.grown hgr2 (Nat.le_trans hbd1 (by rw [hs1]; exact Nat.le_succ _)) (fun z e => by rw [← Option.some.inj e]; exact hbd1)
        clear hown1 hgr2
        refine wpAny_ready (rs := [14]) (by kernel_rfl) (by simp) ?_
        refine AllReady.cons rfl (fun K hK => ?_) AllReady.nil
        go_simp
        refine hK _ _ ?_
        clear hK K
        have bd3 := bd2.alloc bd2.size (.cells #[.slice (some ⟨g1, 0, none⟩) (0 + (y - x)) cap1] 34)
        have hc3 : (W2.alloc (.cells #[.slice (some ⟨g1, 0, none⟩) (0 + (y - x)) cap1] 34)).heap[W2.heap.size]? = some (.cells #[.slice (some ⟨g1, 0, none⟩) (0 + (y - x)) cap1] 34 (0, 0)) := heap_alloc_last _ _
        have hsl3 := hsl2.below ((Below.refl W2.heap.size W2).alloc (Nat.le_refl _) (.cells #[.slice (some ⟨g1, 0, none⟩) (0 + (y - x)) cap1] 34))
        try rw [Nat.zero_add] at hc3 bd3 hsl3
        try rw [Nat.zero_add]
        generalize W2.heap.size = p3 at *
        generalize W2.alloc (.cells #[.slice (some ⟨g1, 0, none⟩) (y - x) cap1] 34) = W3 at *
        refine wpAny_ready (rs := [15]) (by kernel_rfl) (by simp) ?_
        refine AllReady.cons rfl (fun K hK => ?_) AllReady.nil
        have hH3 := hD.out.below bd3
        have hv3 := own_below hvals'.out bd3
        refine step_append_lies _ rfl _ _ 22 (by exact rfl) (w.heap.size + 2) 34 j5 (.slice none 0 0) 1 24 tyRows hj5 hy0' hy1' hy2' rfl (by decide) v k vals (by exact rfl) hv3 ⟨p3, 0, none⟩ 1 1 [.slice (some ⟨g1, 0, none⟩) (y - x) cap1] (by exact rfl) rfl (one_src hc3) (fun u hu => by simp at hu; subst hu; rfl) (by decide) (small_max hlt HB.out.1) (small_byt hlt HB.out.1) hH3.sz2 _ rfl ?_
        intro g2 cap2 W4 hown4 hgr4 _ _
        refine hK _ _ ?_
        clear hK K hc3
        refine any_take (i := 16) (v := ?_) rfl (by kernel_rfl) (by kernel_rfl) (by kernel_rfl) (fun _ _ _ h => h) (by exact rfl) (by intro w; go_simp; try with_reducible rfl) (fun K hK => ?_); go_simp; refine hK _ _ ?_; clear hK K
        refine any_take (i := 17) (v := ?_) rfl (by kernel_rfl) (by kernel_rfl) (by kernel_rfl) (fun _ _ _ h => h) (by exact rfl) (by intro w; go_simp; try with_reducible rfl) (fun K hK => ?_); go_simp; refine hK _ _ ?_; clear hK K
        refine wpAny_ready (rs := [18]) (by kernel_rfl) (by simp) ?_
        refine AllReady.cons rfl (fun K hK => ?_) AllReady.nil
        have hH4 := hlf_app hH3 hv3 hgr4
        have fr4 : W4.frozen? ⟨a, 0, none⟩ = false := by simp [World.frozen?, hH4.1]
        have ce4 : W4.cell? ⟨a, 0, none⟩ = some v := cell_of_row W4 a 0 _ _ _ hH4.1
        go_simp
        refine hK _ _ ?_
        clear hK K
        refine wpAny_done (by kernel_rfl) ?_ _
        go_wp2
        go_roundw
        case rel => exact ⟨k + 1, by omega, by go_num, _, hlf_store hH3 hv3 (fun i u h => (HSG.out i u h).below bd3) hgr4 hH4 hown4 hsl3⟩
        case measure => simp [RowKit.intOf]; omega
      · go_simp
        refine hK _ _ ?_
        clear hK K
        have hown1 := own_empty D 5
        have hs1 : (D.alloc (.cells #[] 5)).heap.size = D.heap.size + 1 := by simp
        have bd1 := bd0.alloc bd0.size (.cells #[] 5)
        have hsrc1 := seg_src HA.out (hD.out.bel.trans (bd1.mono hszD)) HB.out.2 HXY.out HL.out hlt
        obtain ⟨base1, hbase1⟩ : ∃ z, z = D.heap.size := ⟨_, rfl⟩
        have hbd1 : D.heap.size ≤ base1 := by rw [hbase1]; exact bd0.size
        rw [← hbase1] at hown1 hs1 ⊢
        generalize D.alloc (.cells #[] 5) = W1 at *
        clear hbase1
        have c0 : W1.cell? ⟨a, 0, none⟩ = some v := cell_of_row W1 a 0 _ _ _ (hD.out.below bd1).cells
        refine wpAny_ready (rs := [4, 13]) (by kernel_rfl) (by simp) ?_
        refine AllReady.cons rfl (fun K hK => ?_) (AllReady.cons rfl (fun K hK => ?_) AllReady.nil)
        · go_simp
          refine hK _ _ ?_
          clear hK K c0
          refine wpAny_ready (rs := [13]) (by kernel_rfl) (by simp) ?_
          refine AllReady.cons rfl (fun K hK => ?_) AllReady.nil
          refine step_append_lies _ rfl _ _ 34 (by exact rfl) base1 5 i5 (.int .u8 0) 1 1 tyBs hi5 hz0 hz1 hz2 rfl (by decide) _ 0 [] (by exact rfl) hown1 ⟨b, off + x, none⟩ (y - x) _ _ (by exact rfl) hsrc1.1 hsrc1.2 (one_bytes _) (seg_pos HXY.out) (seg_max HXY.out) (seg_byt HXY.out) (by rw [hs1]; exact Nat.le_succ _) _ rfl ?_
          intro g1 cap1 W2 hown2 hgr2 _ _
          have hsl2 := sg_own (l := l) hown2 HXY.out (Nat.le_trans hszD hbd1)
          refine hK _ _ ?_
          clear hK K hsrc1
          have bd2 := bd1.grown hgr2 (Nat.le_trans hbd1 (by rw [hs1]; exact Nat.le_succ _)) (fun z e => by rw [← Option.some.inj e]; exact hbd1)
          clear hown1 hgr2
          refine wpAny_ready (rs := [14]) (by kernel_rfl) (by simp) ?_
          refine AllReady.cons rfl (fun K hK => ?_) AllReady.nil
          go_simp
          refine hK _ _ ?_
          clear hK K
          have bd3 := bd2.alloc bd2.size (.cells #[.slice (some ⟨g1, 0, none⟩) (0 + (y - x)) cap1] 34)
          have hc3 : (W2.alloc (.cells #[.slice (some ⟨g1, 0, none⟩) (0 + (y - x)) cap1] 34)).heap[W2.heap.size]? = some (.cells #[.slice (some ⟨g1, 0, none⟩) (0 + (y - x)) cap1] 34 (0, 0)) := heap_alloc_last _ _
          have hsl3 := hsl2.below ((Below.refl W2.heap.size W2).alloc (Nat.le_refl _) (.cells #[.slice (some ⟨g1, 0, none⟩) (0 + (y - x)) cap1] 34))
          try rw [Nat.zero_add] at hc3 bd3 hsl3
          try rw [Nat.zero_add]
          generalize W2.heap.size = p3 at *
          generalize W2.alloc (.cells #[.slice (some ⟨g1, 0, none⟩) (y - x) cap1] 34) = W3 at *
          refine wpAny_ready (rs := [15]) (by kernel_rfl) (by simp) ?_
          refine AllReady.cons rfl (fun K hK => ?_) AllReady.nil
          have hH3 := hD.out.below bd3
          have hv3 := own_below hvals'.out bd3
          refine step_append_lies _ rfl _ _ 22 (by exact rfl) (w.heap.size + 2) 34 j5 (.slice none 0 0) 1 24 tyRows hj5 hy0' hy1' hy2' rfl (by decide) v k vals (by exact rfl) hv3 ⟨p3, 0, none⟩ 1 1 [.slice (some ⟨g1, 0, none⟩) (y - x) cap1] (by exact rfl) rfl (one_src hc3) (fun u hu => by simp at hu; subst hu; rfl) (by decide) (small_max hlt HB.out.1) (small_byt hlt HB.out.1) hH3.sz2 _ rfl ?_
          intro g2 cap2 W4 hown4 hgr4 _ _
          refine hK _ _ ?_
          clear hK K hc3
          refine any_take (i := 16) (v := ?_) rfl (by kernel_rfl) (by kernel_rfl) (by kernel_rfl) (fun _ _ _ h => h) (by exact rfl) (by intro w; go_simp; try with_reducible rfl) (fun K hK => ?_); go_simp; refine hK _ _ ?_; clear hK K
          refine any_take (i := 17) (v := ?_) rfl (by kernel_rfl) (by kernel_rfl) (by kernel_rfl) (fun _ _ _ h => h) (by exact rfl) (by intro w; go_simp; try with_reducible rfl) (fun K hK => ?_); go_simp; refine hK _ _ ?_; clear hK K
          refine wpAny_ready (rs := [18]) (by kernel_rfl) (by simp) ?_
          refine AllReady.cons rfl (fun K hK => ?_) AllReady.nil
          have hH4 := hlf_app hH3 hv3 hgr4
          have fr4 : W4.frozen? ⟨a, 0, none⟩ = false := by simp [World.frozen?, hH4.1]
          have ce4 : W4.cell? ⟨a, 0, none⟩ = some v := cell_of_row W4 a 0 _ _ _ hH4.1
          go_simp
          refine hK _ _ ?_
          clear hK K
          refine wpAny_done (by kernel_rfl) ?_ _
          go_wp2
          go_roundw
          case rel => exact ⟨k + 1, by omega, by go_num, _, hlf_store hH3 hv3 (fun i u h => (HSG.out i u h).below bd3) hgr4 hH4 hown4 hsl3⟩
          case measure => simp [RowKit.intOf]; omega
        · refine step_append_lies _ rfl _ _ 34 (by exact rfl) base1 5 i5 (.int .u8 0) 1 1 tyBs hi5 hz0 hz1 hz2 rfl (by decide) _ 0 [] (by exact rfl) hown1 ⟨b, off + x, none⟩ (y - x) _ _ (by exact rfl) hsrc1.1 hsrc1.2 (one_bytes _) (seg_pos HXY.out) (seg_max HXY.out) (seg_byt HXY.out) (by rw [hs1]; exact Nat.le_succ _) _ rfl ?_
          intro g1 cap1 W2 hown2 hgr2 _ _
          have hsl2 := sg_own (l := l) hown2 HXY.out (Nat.le_trans hszD hbd1)
          refine hK _ _ ?_
          clear hK K hsrc1
          have bd2 := bd1.grown hgr2 (Nat.le_trans hbd1 (by rw [hs1]; exact Nat.le_succ _)) (fun z e => by rw [← Option.some.inj e]; exact hbd1)
          clear hown1 hgr2
          have c0 : W2.cell? ⟨a, 0, none⟩ = some v := cell_of_row W2 a 0 _ _ _ (hD.out.below bd2).cells
          refine wpAny_ready (rs := [4, 14]) (by kernel_rfl) (by simp) ?_
          refine AllReady.cons rfl (fun K hK => ?_) (AllReady.cons rfl (fun K hK => ?_) AllReady.nil)
          · go_simp
            refine hK _ _ ?_
            clear hK K c0
            refine wpAny_ready (rs := [14]) (by kernel_rfl) (by simp) ?_
            refine AllReady.cons rfl (fun K hK => ?_) AllReady.nil
            go_simp
            refine hK _ _ ?_
            clear hK K
            have bd3 := bd2.alloc bd2.size (.cells #[.slice (some ⟨g1, 0, none⟩) (0 + (y - x)) cap1] 34)
            have hc3 : (W2.alloc (.cells #[.slice (some ⟨g1, 0, none⟩) (0 + (y - x)) cap1] 34)).heap[W2.heap.size]? = some (.cells #[.slice (some ⟨g1, 0, none⟩) (0 + (y - x)) cap1] 34 (0, 0)) := heap_alloc_last _ _
            have hsl3 := hsl2.below ((Below.refl W2.heap.size W2).alloc (Nat.le_refl _) (.cells #[.slice (some ⟨g1, 0, none⟩) (0 + (y - x)) cap1] 34))
            try rw [Nat.zero_add] at hc3 bd3 hsl3
            try rw [Nat.zero_add]
            generalize W2.heap.size = p3 at *
            generalize W2.alloc (.cells #[.slice (some ⟨g1, 0, none⟩) (y - x) cap1] 34) = W3 at *
            refine wpAny_ready (rs := [15]) (by kernel_rfl) (by simp) ?_
            refine AllReady.cons rfl (fun K hK => ?_) AllReady.nil
            have hH3 := hD.out.below bd3
            have hv3 := own_below hvals'.out bd3
            refine step_append_lies _ rfl _ _ 22 (by exact rfl) (w.heap.size + 2) 34 j5 (.slice none 0 0) 1 24 tyRows hj5 hy0' hy1' hy2' rfl (by decide) v k vals (by exact rfl) hv3 ⟨p3, 0, none⟩ 1 1 [.slice (some ⟨g1, 0, none⟩) (y - x) cap1] (by exact rfl) rfl (one_src hc3) (fun u hu => by simp at hu; subst hu; rfl) (by decide) (small_max hlt HB.out.1) (small_byt hlt HB.out.1) hH3.sz2 _ rfl ?_
            intro g2 cap2 W4 hown4 hgr4 _ _
            refine hK _ _ ?_
            clear hK K hc3
            refine any_take (i := 16) (v := ?_) rfl (by kernel_rfl) (by kernel_rfl) (by kernel_rfl) (fun _ _ _ h => h) (by exact rfl) (by intro w; go_simp; try with_reducible rfl) (fun K hK => ?_); go_simp; refine hK _ _ ?_; clear hK K
            refine any_take (i := 17) (v := ?_) rfl (by kernel_rfl) (by kernel_rfl) (by kernel_rfl) (fun _ _ _ h => h) (by exact rfl) (by intro w; go_simp; try with_reducible rfl) (fun K hK => ?_); go_simp; refine hK _ _ ?_; clear hK K
            refine wpAny_ready (rs := [18]) (by kernel_rfl) (by simp) ?_
            refine AllReady.cons rfl (fun K hK => ?_) AllReady.nil
            have hH4 := hlf_app hH3 hv3 hgr4
            have fr4 : W4.frozen? ⟨a, 0, none⟩ = false := by simp [World.frozen?, hH4.1]
            have ce4 : W4.cell? ⟨a, 0, none⟩ = some v := cell_of_row W4 a 0 _ _ _ hH4.1
            go_simp
            refine hK _ _ ?_
            clear hK K
            refine wpAny_done (by kernel_rfl) ?_ _
            go_wp2
            go_roundw
            case rel => exact ⟨k + 1, by omega, by go_num, _, hlf_store hH3 hv3 (fun i u h => (HSG.out i u h).below bd3) hgr4 hH4 hown4 hsl3⟩
            case measure => simp [RowKit.intOf]; omega
          · go_simp
            refine hK _ _ ?_
            clear hK K
            have bd3 := bd2.alloc bd2.size (.cells #[.slice (some ⟨g1, 0, none⟩) (0 + (y - x)) cap1] 34)
            have hc3 : (W2.alloc (.cells #[.slice (some ⟨g1, 0, none⟩) (0 + (y - x)) cap1] 34)).heap[W2.heap.size]? = some (.cells #[.slice (some ⟨g1, 0, none⟩) (0 + (y - x)) cap1] 34 (0, 0)) := heap_alloc_last _ _
            have hsl3 := hsl2.below ((Below.refl W2.heap.size W2).alloc (Nat.le_refl _) (.cells #[.slice (some ⟨g1, 0, none⟩) (0 + (y - x)) cap1] 34))
            try rw [Nat.zero_add] at hc3 bd3 hsl3
            try rw [Nat.zero_add]
            generalize W2.heap.size = p3 at *
            generalize W2.alloc (.cells #[.slice (some ⟨g1, 0, none⟩) (y - x) cap1] 34) = W3 at *
            have c0 : W3.cell? ⟨a, 0, none⟩ = some v := cell_of_row W3 a 0 _ _ _ (hD.out.below bd3).cells
            refine wpAny_ready (rs := [4]) (by kernel_rfl) (by simp) ?_
            refine AllReady.cons rfl (fun K hK => ?_) AllReady.nil
            go_simp
            refine hK _ _ ?_
            clear hK K c0
            refine wpAny_ready (rs := [15]) (by kernel_rfl) (by simp) ?_
            refine AllReady.cons rfl (fun K hK => ?_) AllReady.nil
            have hH3 := hD.out.below bd3
            have hv3 := own_below hvals'.out bd3
            refine step_append_lies _ rfl _ _ 22 (by exact rfl) (w.heap.size + 2) 34 j5 (.slice none 0 0) 1 24 tyRows hj5 hy0' hy1' hy2' rfl (by decide) v k vals (by exact rfl) hv3 ⟨p3, 0, none⟩ 1 1 [.slice (some ⟨g1, 0, none⟩) (y - x) cap1] (by exact rfl) rfl (one_src hc3) (fun u hu => by simp at hu; subst hu; rfl) (by decide) (small_max hlt HB.out.1) (small_byt hlt HB.out.1) hH3.sz2 _ rfl ?_
            intro g2 cap2 W4 hown4 hgr4 _ _
            refine hK _ _ ?_
            clear hK K hc3
            refine any_take (i := 16) (v := ?_) rfl (by kernel_rfl) (by kernel_rfl) (by kernel_rfl) (fun _ _ _ h => h) (by exact rfl) (by intro w; go_simp; try with_reducible rfl) (fun K hK => ?_); go_simp; refine hK _ _ ?_; clear hK K
            refine any_take (i := 17) (v := ?_) rfl (by kernel_rfl) (by kernel_rfl) (by kernel_rfl) (fun _ _ _ h => h) (by exact rfl) (by intro w; go_simp; try with_reducible rfl) (fun K hK => ?_); go_simp; refine hK _ _ ?_; clear hK K
            refine wpAny_ready (rs := [18]) (by kernel_rfl) (by simp) ?_
            refine AllReady.cons rfl (fun K hK => ?_) AllReady.nil
            have hH4 := hlf_app hH3 hv3 hgr4
            have fr4 : W4.frozen? ⟨a, 0, none⟩ = false := by simp [World.frozen?, hH4.1]
            have ce4 : W4.cell? ⟨a, 0, none⟩ = some v := cell_of_row W4 a 0 _ _ _ hH4.1
            go_simp
            refine hK _ _ ?_
            clear hK K
            refine wpAny_done (by kernel_rfl) ?_ _
            go_wp2
            go_roundw
            case rel => exact ⟨k + 1, by omega, by go_num, _, hlf_store hH3 hv3 (fun i u h => (HSG.out i u h).below bd3) hgr4 hH4 hown4 hsl3⟩
            case measure => simp [RowKit.intOf]; omega
    · have hkn : k = n := by omega
      obtain ⟨v, hh⟩ := HR.out
      have HBEL := Lib.hid hh.bel
      subst hkn
      have HDK := Lib.hid (hlf_disk hh (by have := HA.out.1; rw [List.length_map] at this; rw [this, HL.out]) H1.out HB.out.1)
      clear HR hh
      go_wp2
      go_ret2
      exact ⟨a, rfl, HDK.out, HBEL.out⟩
end

section
open Go.RowKit

theorem RD.congr {w : World} {F : Nat → Prop} {a n : Nat} {S : Dsk} (h : RD w F a n S) (st : Nat → List UInt8) (hs : ∀ i, i < n → S.st i = st i) : RD w F a n (S.withSt st) := by
  obtain ⟨r1, r2, c1, c2, A, m, c, V1, V2, h⟩ := h
  exact ⟨r1, r2, c1, c2, A, m, c, V1, V2, ⟨h.ok.n1, h.ok.n4, fun i hi => by show (st i).length = 64; rw [← hs i hi]; exact h.ok.st i hi, h.ok.ca, h.ok.c0, h.ok.c1⟩, h.cells, h.row1, h.row2, h.ne, fun i hi => by show Sl w F (V1 i) (st i); rw [← hs i hi]; exact h.v1 i hi, h.v2, h.flt, h.m64, h.fa, h.f1, h.f2, h.lt⟩
set_option maxHeartbeats 400000 in
theorem rnew_no (s : Int) (w : World) (hs : possB s = false) : Calls Try.prog 20 #[.int .i64 s] w fun e w' => e = .returned (.tuple #[.pointer none, .int .i64 2]) ∧ w = w' := by
  by_cases h1 : s < 1
  · have h1' : decide (s < 1) = true := by simpa using h1
    clear hs h1
    go_enter Try.func20, Try.ntmps20
    go_wp2
    go_ret2
    exact ⟨rfl, rfl⟩
  · have h2 : (4096 : Int) < s := by simp [possB] at hs; omega
    have h1' : decide (s < 1) = false := by simpa using h1
    have h2' : decide ((4096 : Int) < s) = true := by simpa using h2
    clear hs
    go_enter Try.func20, Try.ntmps20
    go_wp2
    go_ret2
    exact ⟨rfl, rfl⟩
set_option maxRecDepth 20000 in
set_option maxHeartbeats 800000 in
theorem rnew_yes (n : Nat) (w : World) (h1 : 1 ≤ n) (h4 : n ≤ 4096) : Calls Try.prog 20 #[.int .i64 n] w fun e w' => ∃ a, e = .returned (.tuple #[.pointer (some ⟨a, 0, none⟩), .int .i64 0]) ∧ RD w' (newF w w') a n (Dsk.fresh st0) ∧ Below w.heap.size w w' := by
  obtain ⟨L, hL⟩ : ∃ L, L = 64 * n := ⟨_, rfl⟩
  have hw : wrap64 ((n : Int) * 64) = (L : Int) := by unfold wrap64; omega
  have hw' : (n : Int) * 64 = (L : Int) := by omega
  have hL4 : Hid (L ≤ 281474976710656) := by show _ ≤ _; omega
  have hL' := Lib.hid hL
  have H := Lib.hid (And.intro h1 h4)
  have g1 : decide ((n : Int) < 1) = false := by simp; omega
  have g2 : decide ((4096 : Int) < (n : Int)) = false := by simp; omega
  have g3 : ¬ (n : Int) < 1 := by omega
  have g4 : ¬ (4096 : Int) < (n : Int) := by omega
  clear hL h1 h4
  go_enter Try.func20, Try.ntmps20
  go_wp2_with (first
    | (at_make; refine wpList_make_bytes _ rfl _ _ (by exact rfl) L (by exact rfl) (by exact rfl) (by exact hL4.out) ?_; intro w1 g hg0 hg1 hrow hgr; have hb1 := (Below.refl w.heap.size w).grown hgr (Nat.le_refl _) (fun k e => by cases e); have hrow' : w1.heap[g]? = some (.cells ((flat n st0).map bv).toArray 5 (0, 0)) := (by rw [flat_zeros, ← hL'.out]; simpa [Row, Proofs.Ytbcfjkfkkklgbaa.zeros, bv] using hrow); have hhs := has_of_row hrow' (flat_length (st0_len n)))
    | (go_at_call 68; refine (rload_any (some ⟨g, 0, none⟩) L L w1.heap.size n (flat n st0) w1 (by rw [hL'.out]; exact hhs) (Nat.le_refl _) hL'.out H.out.1 H.out.2 (Nat.le_refl _)).mono ?_; rintro e w2 ⟨a, rfl, hrd, hb2⟩))
  go_ret2
  have s1 := hb1.size
  have h3 := hrd.congr st0 fun i hi => stOf_flat (st0_len n) hi
  refine ⟨a, rfl, h3.more ?_ fun b hb => hb.2, hb1.trans (hb2.mono hb1.size)⟩
  rintro b hb
  exact ⟨Nat.le_trans s1 hb.1, hb.2⟩

/-- Sync of the program's disk. -/
theorem sync_any {w : World} {F : Nat → Prop} {a n : Nat} {S : Dsk} (h : PD w F a n S) : Calls Try.prog 27 #[.pointer (some ⟨a, 0, none⟩)] w fun e w' => e = .returned (.int .i64 (S.ans true)) ∧ PD w' F a n S.synced ∧ Frm F w w' := by
  by_cases he : S.err true = 0
  · have hbeg : S.off = false := by
      cases ho : S.off with
      | false => rfl
      | true => simp [Dsk.err, ho] at he
    cases hp : S.pow true with
    | true =>
      have e1 : S.ans true = 10 := by simp [Dsk.ans, he, hp]
      have e2 : S.synced = (S.begun true).cut := by simp [Dsk.synced, Dsk.done, Dsk.ans, he, hp]
      rw [e1, e2]
      exact sync_pow h he hp
    | false =>
      have e1 : S.ans true = 0 := by simp [Dsk.ans, he, hp]
      have e2 : S.synced = (S.begun true).flush := by simp [Dsk.synced, Dsk.done, Dsk.ans, he, hp]
      rw [e1, e2]
      exact sync_yes h he hp
  · have e1 : S.ans true = S.err true := by simp [Dsk.ans, he]
    have e2 : S.synced = S.begun true := by simp [Dsk.synced, Dsk.done, Dsk.ans, he]
    rw [e1, e2]
    exact sync_err h he
end

section
open Go.RowKit

/-- A slice of bytes that was made since w. -/
def RdV (w w' : World) (v : Value) (l : List UInt8) : Prop := ∃ A m c, v = .slice A m c ∧ (A = none → c = 0) ∧ m ≤ 64 ∧ ∀ G : Nat → Prop, (∀ b, G b → b < w.heap.size) → HasF G w' A m (l.map bv)
theorem rdv_none (w w' : World) : RdV w w' (.slice none 0 0) [] := ⟨none, 0, 0, rfl, fun _ => rfl, by omega, fun G _ => ⟨rfl, fun h => absurd h (by omega)⟩⟩
theorem rdv_own {w w' : World} {g c : Nat} {l : List UInt8} (hg : w.heap.size ≤ g) (h : Own8 w' g c 64 l) : RdV w w' (.slice (some ⟨g, 0, none⟩) 64 c) l :=
  ⟨_, _, _, rfl, (fun e => by cases e), by omega, fun G hG => own_hasF h fun hb => by have := hG g hb; omega⟩
/-- What a Read hands back. -/
def Dsk.got (S : Dsk) (n : Nat) (i : Int) : List UInt8 := if S.ans (inR n i) = 0 then S.sec i.toNat else []

theorem read_any {w : World} {F : Nat → Prop} {a n : Nat} {S : Dsk} (h : PD w F a n S) (i : Int) : Calls Try.prog 21 #[.pointer (some ⟨a, 0, none⟩), .int .i64 i] w fun e w' =>
    ∃ v, e = .returned (.tuple #[v, .int .i64 (S.ans (inR n i))]) ∧ RdV w w' v (S.got n i) ∧ PD w' F a n (S.done (inR n i)) ∧ Frm F w w' := by
  by_cases he : S.err (inR n i) = 0
  · cases hok : inR n i with
    | false =>
      rw [hok] at he
      unfold Dsk.err at he
      split at he <;> simp at he
    | true =>
      rw [hok] at he
      cases hp : S.pow true with
      | true =>
        have e1 : S.ans true = 10 := by simp [Dsk.ans, he, hp]
        have e2 : S.done true = (S.begun true).cut := by simp [Dsk.done, he, hp]
        have hc := read_pow h i (by rw [hok]; exact he) (by rw [hok]; exact hp)
        rw [hok] at hc
        refine hc.mono ?_
        rintro e w' ⟨rfl, hpd, hf⟩
        refine ⟨_, by rw [e1], ?_, by rw [e2]; exact hpd, hf⟩
        unfold Dsk.got
        rw [hok, e1]
        exact rdv_none w w'
      | false =>
        have e1 : S.ans true = 0 := by simp [Dsk.ans, he, hp]
        have e2 : S.done true = S.begun true := by simp [Dsk.done, he, hp]
        have hir := hok
        simp only [Bool.and_eq_true, decide_eq_true_eq, inR] at hir
        obtain ⟨k, rfl⟩ : ∃ k : Nat, i = k := ⟨i.toNat, by omega⟩
        refine (read_yes h k (by omega) he hp).mono ?_
        rintro e w' ⟨hpd, hf, g, rfl, hg, hrow⟩
        refine ⟨_, by rw [e1], ?_, by rw [e2]; exact hpd, hf⟩
        unfold Dsk.got
        rw [hok, e1]
        simp only [if_true, Int.toNat_natCast]
        refine rdv_own hg ⟨_, hrow, by simp [h.ok.sec (by omega : k < n)], by omega, ?_⟩
        have := h.ok.sec (by omega : k < n)
        rw [List.toList_toArray, List.take_of_length_le (by rw [List.length_map]; omega)]
  · refine (read_err h i he).mono ?_
    rintro e w' ⟨rfl, hpd, hf⟩
    have e1 : S.ans (inR n i) = S.err (inR n i) := by simp [Dsk.ans, he]
    have e2 : S.done (inR n i) = S.begun (inR n i) := by simp [Dsk.done, he]
    refine ⟨_, by rw [e1], ?_, by rw [e2]; exact hpd, hf⟩
    unfold Dsk.got
    rw [if_neg (by rw [e1]; exact he)]
    exact rdv_none w w'
theorem rread_got {w : World} {F : Nat → Prop} {a n : Nat} {S : Dsk} (h : RD w F a n S) (i : Int) : Calls Try.prog 22 #[.pointer (some ⟨a, 0, none⟩), .int .i64 i] w fun e w' =>
    ∃ v, e = .returned (.tuple #[v, .int .i64 (S.ans (inR n i))]) ∧ RdV w w' v (S.got n i) ∧ RD w' F a n (S.done (inR n i)) ∧ Frm F w w' := by
  refine (rread_any h i).mono ?_
  rintro e w' ⟨v, z, rfl, rfl, hrd, hf, h1, h2⟩
  refine ⟨v, rfl, ?_, hrd, hf⟩
  unfold Dsk.got
  by_cases hz : S.ans (inR n i) = 0
  · rw [if_pos hz]
    obtain ⟨g, c, rfl, hg, ho⟩ := h2 hz
    exact rdv_own hg ho
  · rw [if_neg hz, h1 hz]
    exact rdv_none w w'

set_option maxHeartbeats 1600000 in
theorem ints_any (A1 A2 : Option Addr) (n1 c1 n2 c2 B : Nat) (l : List Int) (w : World) (h1 : Has w B A1 n1 (l.map (Value.int .i64))) (h2 : Has w B A2 n2 (l.map (Value.int .i64))) (hm : l.length ≤ 1000000) (hB : B ≤ w.heap.size) :
    Calls Try.prog 48 #[.slice A1 n1 c1, .slice A2 n2 c2] w fun e w' => e = .returned (.bool true) ∧ Below w.heap.size w w' := by
  have e1 : n1 = l.length := by have := h1.1; simpa using this.symm
  have e2 : n2 = l.length := by have := h2.1; simpa using this.symm
  have e3 : n2 = n1 := by omega
  have hn : n1 ≤ 1000000 := by omega
  have H1 := Lib.hid h1
  have H2 := Lib.hid h2
  have E1 := Lib.hid e1
  subst e3
  clear h1 h2 e1 e2 hm
  have hnb : (n2 : Int) ≤ 1000000 := by omega
  go_enter Try.func48, Try.ntmps48
  go_wp2
  go_loopw [5] (fun i wr => ∃ k : Nat, k ≤ n2 ∧ i = .int .i64 k ∧ Hid (Below w.heap.size w wr)) (fun i _ => n2 - (RowKit.intOf i).toNat)
  case atStart => exact ⟨0, Nat.zero_le _, rfl, Below.refl _ _⟩
  case round =>
    obtain ⟨k, hk, rfl, HR⟩ := hrel
    have hkb : (k : Int) ≤ 1000000 := by omega
    have hkw : wrap64 ((k : Int) + 1) = (k : Int) + 1 := by unfold wrap64; omega
    by_cases hlt : k < n2
    · obtain ⟨b1, o1, rfl, l1, d1⟩ := H1.out.2 (by omega)
      obtain ⟨b2, o2, rfl, l2, d2⟩ := H2.out.2 (by omega)
      have g1 := d1 k (by rw [List.length_map, ← E1.out]; exact hlt)
      have g2 := d2 k (by rw [List.length_map, ← E1.out]; exact hlt)
      rw [List.getElem_map] at g1 g2
      have g1' := (HR.out.cell (p := ⟨b1, o1 + k, none⟩) (Nat.lt_of_lt_of_le l1 hB)).trans g1
      have g2' := (HR.out.cell (p := ⟨b2, o2 + k, none⟩) (Nat.lt_of_lt_of_le l2 hB)).trans g2
      have hd : decide ((k : Int) < (n2 : Int)) = true := by simpa using hlt
      have hlti : (k : Int) < (n2 : Int) := by omega
      generalize l[k] = z at g1' g2'
      have q0 : (z != z) = false := by simp
      clear d1 d2 hk g1 g2
      go_wp2
      go_quiet (fail)
      go_wp2
      go_roundw
      case rel => exact ⟨k + 1, by omega, by go_num, HR.out.trans (drewN_bel _ _ _)⟩
      case measure => simp [RowKit.intOf]; omega
    · obtain rfl : k = n2 := by omega
      have hd : decide ((k : Int) < (k : Int)) = false := by simp
      go_wp2
      go_ret
      exact ⟨rfl, HR.out⟩
end

end Go.Proofs.Ytbcfjkfkkklgbaa
