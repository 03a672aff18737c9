/-
The program's parseDomain of package host.
The program's Parse of package host.
The cuts of a URL: cutAuthority, cutUser, cutPort.
-/
import Derived.Test.YtekaljeicfjkjaaGreatDoorK16
import Derived.Test.YtekaljeicfjkjaaGreatDoorK22
import Derived.Test.YtekaljeicfjkjaaGreatDoorK14
import Derived.Test.YtekaljeicfjkjaaGreatDoorK19
import Derived.Test.YtekaljeicfjkjaaGreatDoorK05
import Derived.Test.YtekaljeicfjkjaaGreatDoorK17
import Derived.Lib.LastIndexByte
namespace Go.Proofs.YtekaljeicfjkjaaGreatDoor
section
open Go.RowKit Go.Shelf
set_option maxHeartbeats 16000000
attribute [local go_sem] Oper.semAt_some
def pD (l : List UInt8) : Nat × Hv := if (zhg (z3b 46 l)).1 = 0 then jN (zhg (z3b 46 l)).2 else ((zhg (z3b 46 l)).1, hv0)
def nmA (pre : List St9) : List (List UInt8) := pre.map (fun x => (toA (ls x.1)).2)
theorem ze7 (pre : List St9) : (nmA pre).length = pre.length := List.length_map _
theorem ze8 : ∀ (pre : List St9), (∀ x ∈ pre, (toA (ls x.1)).1 = 0) -> zhg (pre.map (fun x => ls x.1)) = (0, nmA pre)
 | [], _ => rfl
 | x :: r, h => by
   have ih := ze8 r (fun y hy => h y (by simp [hy]))
   rw [List.map_cons, zhg, if_pos (h x (by simp)), ih]
   rfl
theorem ze9 : ∀ (pre : List St9) (x : St9) (t : List (List UInt8)), (∀ y ∈ pre, (toA (ls y.1)).1 = 0) -> (toA (ls x.1)).1 ≠ 0 -> zhg (pre.map (fun x => ls x.1) ++ ls x.1 :: t) = ((toA (ls x.1)).1, [])
 | [], x, t, _, hx => by rw [List.map_nil, List.nil_append, zhg, if_neg hx]
 | y :: r, x, t, h, hx => by
   have ih := ze9 r x t (fun z hz => h z (by simp [hz])) hx
   rw [List.map_cons, List.cons_append, zhg, if_pos (h y (by simp)), ih, if_neg hx]
theorem zfa : ∀ (q : List (List UInt8)), (∀ x ∈ q, x.length <= 63) -> (z3k 46 q).length <= 64 * q.length
 | [], _ => by simp [z3k]
 | [a], h => by
   have := h a (by simp)
   simp only [z3k, List.length_cons, List.length_nil]
   omega
 | a :: b :: r, h => by
   have h1 := h a (by simp)
   have ih := zfa (b :: r) (fun x hx => h x (by simp [hx]))
   rw [z3k, List.length_append, List.length_cons, List.length_cons (a := a)]
   omega
theorem zfb {pre : List St9} (h : ∀ x ∈ pre, (toA (ls x.1)).1 = 0) : ∀ y ∈ nmA pre, y.length <= 63 := by
 intro y hy
 obtain ⟨x, hx, rfl⟩ := List.mem_map.1 hy
 rcases ztc (ls x.1) with ⟨_, h2⟩ | ⟨h2, _⟩
 ·exact (zs8 h2).2.2
 ·exact absurd (h x hx) h2
theorem zfc {l : List UInt8} {pre : List St9} {x : St9} (h1 : (pre ++ [x]).map (fun x => ls x.1) <+: z3b 46 l) (h2 : ∀ y ∈ pre, (toA (ls y.1)).1 = 0) (h3 : (toA (ls x.1)).1 ≠ 0) : pD l = ((toA (ls x.1)).1, hv0) := by
 obtain ⟨t, ht⟩ := h1
 have e : z3b 46 l = pre.map (fun x => ls x.1) ++ ls x.1 :: t := by rw [<- ht, List.map_append, List.append_assoc]; rfl
 unfold pD
 rw [e, ze9 pre x t h2 h3, if_neg h3]
theorem zfd {l : List UInt8} {pre : List St9} (h1 : pre.map (fun x => ls x.1) = z3b 46 l) (h2 : ∀ y ∈ pre, (toA (ls y.1)).1 = 0) : pD l = jN (nmA pre) := by
 unfold pD
 rw [<- h1, ze8 pre h2, if_pos rfl]
theorem zfe {fn : Func} {w : World} {tmps : Array Value} (p u : Tmp) (hres : fn.results = #[.cell p 26, .cell u 43]) (b d : Nat) (hp : tmps.getD p undef = .pointer (some ⟨b, 0, none⟩)) (hu : tmps.getD u undef = .pointer (some ⟨d, 0, none⟩))
 (c : Array Value) (hrow : zgy w b c) (hc : c.size = 11) (v : Value) (hv : w.cell? ⟨d, 0, none⟩ = some v) (_hv1 : v.oneCell' = true) : (results fn tmps).run Tryz.prog w = .ok (.tuple #[.agg c, v]) w := by
 have hp' : tmps[p]?.getD undef = .pointer (some ⟨b, 0, none⟩) := by simpa using hp
 have hu' : tmps[u]?.getD undef = .pointer (some ⟨d, 0, none⟩) := by simpa using hu
 have hv2 : (loadVar 43 ⟨d, 0, none⟩).run Tryz.prog w = .ok v w := by simp [go_sem, hv]
 simp [results, hres, hp', hu', asAddr, Result.andThen, zgz hrow hc, hv2]
def zff (pre : List St9) : Nat := match pre.getLast? with
 | some x => (toA (ls x.1)).1
 | none => 0
theorem zfg (p : List St9) (x : St9) : zff (p ++ [x]) = (toA (ls x.1)).1 := by unfold zff; rw [List.getLast?_append]; rfl
set_option maxRecDepth 100000 in
theorem zfh (hN : zd1 111) (hA : zsz 150) (s : ByteArray) (w : World) (hs : s.size <= 1000000) (hU : U8 w) : Calls Tryz.prog 113 #[.string s] w (zeh w (pD (ls s))) := by
 have hs9 : s.size <= 1000000000 := by omega
 have HU := jL hU
 obtain ⟨i0, hi, hz0, hz1, hz2⟩ := info_parts z38
 clear hU
 refine (callsIn_wide (n := 3)).1 ?_
 refine callsIn_of_wp_marks Tryz.func113 rfl trivial ?_ rfl
 simp only [Tryz.ntmps113, List.size_toArray, List.length_cons, List.length_nil, Nat.reduceAdd, Nat.reduceSub, Array.replicate_succ, Array.replicate_zero, List.push_toArray, List.append_toArray, List.nil_append, List.cons_append]
 gi_wp2_with fail
 refine ⟨trivial, ?_⟩
 refine (callsIn_wide.2 (z23 s _)).mono ?_
 rintro e w2 ⟨rfl, rfl⟩
 gi_wp2_with fail
 obtain ⟨B0, hB0⟩ : ∃ b, b = w.heap.size := ⟨_, rfl⟩
 obtain ⟨W3, hW3⟩ : ∃ W, W = (((((w.alloc (.cells hz 26)).alloc (.cells #[.int .i64 0] 43)).alloc (.cells #[.slice none 0 0] 53)).alloc (.cells #[.string s] 9)).alloc (.cells #[.string ⟨#[46]⟩] 9)).alloc (.cells #[.int .i64 0] 3) := ⟨_, rfl⟩
 rw [show (.cells #[.int .i64 0, .string ⟨#[]⟩, .int .u32 0, .int .u16 0, .int .u16 0, .int .u16 0, .int .u16 0, .int .u16 0, .int .u16 0, .int .u16 0, .int .u16 0] 26 : Obj) = .cells hz 26 from rfl, <- hW3]
 have r1 : zgy (w.alloc (.cells hz 26)) w.heap.size hz := zat w _ _
 have r2 := Boxed.new (w.alloc (.cells hz 26)) 43 (.int .i64 0)
 have r3 := Boxed.new ((w.alloc (.cells hz 26)).alloc (.cells #[.int .i64 0] 43)) 53 (.slice none 0 0)
 have r4 := Boxed.new (((w.alloc (.cells hz 26)).alloc (.cells #[.int .i64 0] 43)).alloc (.cells #[.slice none 0 0] 53)) 9 (.string s)
 have r5 := Boxed.new ((((w.alloc (.cells hz 26)).alloc (.cells #[.int .i64 0] 43)).alloc (.cells #[.slice none 0 0] 53)).alloc (.cells #[.string s] 9)) 9 (.string ⟨#[46]⟩)
 have r6 := Boxed.new (((((w.alloc (.cells hz 26)).alloc (.cells #[.int .i64 0] 43)).alloc (.cells #[.slice none 0 0] 53)).alloc (.cells #[.string s] 9)).alloc (.cells #[.string ⟨#[46]⟩] 9)) 3 (.int .i64 0)
 simp only [World.size_alloc] at r2 r3 r4 r5 r6
 have hz3 : W3.heap.size = B0 + 6 := by rw [hW3, hB0]; simp
 have hb3 : Below w.heap.size w W3 := by
  rw [hW3]
  exact (((((((Below.refl _ w).alloc jH _).alloc (by simp) _).alloc (by simp; omega) _).alloc (by simp; omega) _).alloc (by simp; omega) _).alloc (by simp; omega) _)
 have a2 : zgy W3 B0 hz := by
  rw [hW3, hB0]
  exact Row.grown0 (Row.grown0 (Row.grown0 (Row.grown0 (Row.grown0 r1 (World.grownBy_alloc _ _ _)) (World.grownBy_alloc _ _ _)) (World.grownBy_alloc _ _ _)) (World.grownBy_alloc _ _ _)) (World.grownBy_alloc _ _ _)
 have a3 : Boxed W3 (B0 + 1) 43 (.int .i64 0) := by rw [hW3, hB0]; exact (((r2.alloc _).alloc _).alloc _).alloc _
 have a4 : Boxed W3 (B0 + 2) 53 (.slice none 0 0) := by rw [hW3, hB0]; exact ((r3.alloc _).alloc _).alloc _
 have a5 : Boxed W3 (B0 + 3) 9 (.string s) := by rw [hW3, hB0]; exact (r4.alloc _).alloc _
 have a6 : Boxed W3 (B0 + 3 + 1) 9 (.string ⟨#[46]⟩) := by rw [hW3, hB0]; exact r5.alloc _
 have a7 : Boxed W3 (B0 + 3 + 2) 3 (.int .i64 0) := by rw [hW3, hB0]; exact r6
 rw [<- hB0]
 clear hW3 r1 r2 r3 r4 r5 r6
 have HZ := jL hz3
 have HB := jL hB0
 have HS := jL hs
 refine z2f (α := St9) rfl (by decide) (gf := 191) (lb := #[.pointer (some ⟨B0 + 3 + 1, 0, none⟩), .pointer (some ⟨B0 + 3, 0, none⟩), .pointer (some ⟨B0 + 3 + 2, 0, none⟩)]) rfl trivial (enters_of Tryz.func191 (by kernel_rfl) rfl)
  (enc := fun x : St9 => .string x.1) (Al := fun r => r = B0 + 3) (Kr := fun r => r = B0 + 3 \/ r = B0 + 3 + 1 \/ r = B0 + 3 + 2) (S := fun xs => xs.map (fun x => ls x.1) = z3b 46 (ls s)) (Sp := fun pre => pre.map (fun x => ls x.1) <+: z3b 46 (ls s)) (N := (z3b 46 (ls s)).length)
  (fun r h => by omega) (fun r h => by omega) (fun W0 hg => z29 _ (B0 + 3) s hs9 W0 (a5.kept hg (by simp)) (a6.kept hg (by simp)) (a7.kept hg (by simp))) rfl
  (fun pre W => z2h W (B0 + 2) 53 (B0 + 6) 9 1 pre.length (wv (nmA pre)) /\ Row W B0 26 hz /\ Boxed W (B0 + 1) 43 (.int .i64 0) /\ (∀ x ∈ pre, (toA (ls x.1)).1 = 0) /\ Below w.heap.size w W)
  (fun c pre W => (c = .ret /\ ∃ p x, pre = p ++ [x] /\ (∀ y ∈ p, (toA (ls y.1)).1 = 0) /\ (toA (ls x.1)).1 ≠ 0) /\ Row W B0 26 hz /\ Boxed W (B0 + 1) 43 (.int .i64 (zff pre : Nat)) /\ Below w.heap.size w W)
  ((z2i (B0 + 2) 53 (B0 + 6) 9 1 (fun pre : List St9 => pre.length) (fun pre => wv (nmA pre)) (by show ¬ (_ = _); omega) (fun r h => by omega)).and ((z2g B0 26 (fun _ => hz) (by show ¬ (_ = _); omega)).and ((z2e (B0 + 1) 43 (fun _ => .int .i64 0) (by show ¬ (_ = _); omega)).and ((z2c _).and (z2d jH (by omega) (fun r h => by omega))))))
  (fun c => (z2c _).and ((z2g B0 26 (fun _ => hz) (by show ¬ (_ = _); omega)).and ((z2e (B0 + 1) 43 (fun pre : List St9 => .int .i64 (zff pre : Nat)) (by show ¬ (_ = _); omega)).and (z2d jH (by omega) (fun r h => by omega)))))
  ⟨⟨_, a4, World.ownsRow_nil _ _ _ _⟩, a2, a3, (fun x hx => by cases hx), hb3⟩
  (fun x => { tmps := #[.string s, undef, .pointer (some ⟨B0, 0, none⟩), .pointer (some ⟨B0 + 1, 0, none⟩), .pointer (some ⟨B0 + 1 + 1, 0, none⟩), .string x.1, undef, undef, .string s,
    .func (.func 191) #[] #[.pointer (some ⟨B0 + 1 + 1 + 1 + 1, 0, none⟩), .pointer (some ⟨B0 + 1 + 1 + 1, 0, none⟩), .pointer (some ⟨B0 + 1 + 1 + 1 + 2, 0, none⟩)], .string x.1, undef, undef, undef, undef, undef, undef, undef, undef, undef, undef, undef, undef, undef, undef, undef, undef, undef], defers := [] }) ?assign ?body ?done ?stop
 case assign =>
  intro l x W K hK
  clear hz3 hB0 hs hs9 a2 a3 a4 a5 a6 a7 hb3
  gi_wp2
  exact hK
 case body =>
  rintro l pre x W hl1 hl2 ⟨hbr, b2, b3, hp, hB⟩ hN9
  have hlen9 : pre.length <= 1000001 := by
   have := z3f 46 (ls s)
   rw [zb4] at this
   omega
  have hN1 : B0 + 6 <= W.heap.size := by omega
  have c := hA x.1 W x.2 (z4c HU.out hB)
  clear hz3 hB0 hs hs9 a2 a3 a4 a5 a6 a7 hb3 hN9 hl1 hl2
  obtain ⟨X, hX⟩ : ∃ X, X = bs (toA (ls x.1)).2 := ⟨_, rfl⟩
  obtain ⟨n1, hn1⟩ : ∃ n, n = (toA (ls x.1)).1 := ⟨_, rfl⟩
  rw [<- hX, <- hn1] at c
  have HX := jL hX
  have HN := jL hn1
  clear hX hn1
  gi_wp2_with fail
  refine ⟨trivial, ?_⟩
  refine (CallsIn.inRound l (callsIn_wide.2 c)).mono ?_
  rintro e w4 ⟨rfl, hb4⟩
  replace hbr := hbr.later hb4
  replace b2 : Row w4 B0 26 hz := (hb4.block _ b2.lt).trans b2
  replace b3 : Boxed w4 (B0 + 1) 43 (.int .i64 0) := (hb4.block _ b3.lt).trans b3
  have hB4 := hB.trans (hb4.mono hB.size)
  have hk4 : KeepsFrom W3.heap.size W w4 := ⟨hb4.size, fun k o _ hk _ => (hb4.block k (Array.getElem?_eq_some_iff.1 hk).1).trans hk⟩
  have hs4 : z18 (fun r => r = B0 + 3 \/ r = B0 + 3 + 1 \/ r = B0 + 3 + 2) W w4 := fun r h => hb4.block r (by omega)
  have hN4 : B0 + 6 <= w4.heap.size := Nat.le_trans hN1 hb4.size
  by_cases h0 : n1 = 0
  ·have hq : ((n1 : Int) == 0) = true := by rw [h0]; rfl
   have hq2 : (!((n1 : Int) == 0)) = false := by rw [hq]; rfl
   have H0 := jL h0
   clear h0
   obtain ⟨v, hv, hr⟩ := hbr
   have k1 := hv.cell
   have hbB : B0 + 2 < B0 + 6 := by omega
   gi_wp2_with (gi_at_builtin; refine wpListIn_append_own _ rfl _ _ 53 rfl (B0 + 6) 9 i0 (.string ByteArray.empty) 1 16 z37 hi hz0 hz1 hz2 rfl (by decide) _ _ _ rfl (hr.alloc _) ⟨w4.heap.size, 0, none⟩ 1 1 [.string X] rfl rfl (cell_one_new _ _ _) (by simp [Value.oneCell']) (by unfold maxLen; omega) (by omega) (by simp; omega) ?_; intro v' w5 hown' hgrow _; obtain ⟨g', cap', rfl⟩ := ownsRow_succ hown'; obtain ⟨p1, p2, p3, p4, p5, p6⟩ := z2j hv hr hbB hN4 hown' hgrow; have q1 := p1.cell; have q2 := p1.frozen)
   refine ⟨hk4.trans (p4.from _), fun r h => (p5 r (by omega) (by omega)).trans (hs4 r h), ?_, (p5 B0 (by omega) (by omega)).trans b2, (p5 (B0 + 1) (by omega) (by omega)).trans b3, ?_, p6 _ _ (by have := HB.out; omega) hB4⟩
   ·have e1 : wv (nmA pre) ++ [.string X] = wv (nmA (pre ++ [x])) := by
     have e2 : nmA (pre ++ [x]) = nmA pre ++ [(toA (ls x.1)).2] := List.map_append
     rw [e2, HX.out, z39]
    rw [<- e1, List.length_append, List.length_singleton]
    exact p3
   ·intro y hy
    rcases List.mem_append.1 hy with hy | hy
    ·exact hp y hy
    ·simp at hy
     rw [hy, <- HN.out]
     exact H0.out
  ·have hq : ((n1 : Int) == 0) = false := by rw [beq_eq_false_iff_ne]; omega
   have hq2 : (!((n1 : Int) == 0)) = true := by rw [hq]; rfl
   have H0 := jL h0
   clear h0 hbr
   have k3 := b3.cell
   have f3 := b3.frozen
   gi_wp2_with (refine z2k _ rfl rfl _ _ _ rfl B0 (by exact rfl) hz (by exact rfl) _ _ b2 zgx rfl (zgv _ _ _ _) ?_; intro w5 hr5 hg5; have b5 : Boxed w5 (B0 + 1) 43 (.int .i64 0) := b3.kept hg5 (by simp); have k5 := b5.cell; have f5 := b5.frozen)
   refine ⟨(hk4.trans (KeepsFrom.of_grownBy hg5 (fun j e => by cases e; have := HZ.out; omega))).trans ((KeepsOthers.setCell _ _ _).from _), ⟨rfl, pre, x, rfl, hp, by rw [<- HN.out]; exact H0.out⟩,
    (Below.heap_setCell _ _ _ B0 (by show B0 ≠ B0 + 1; omega)).trans hr5, ?_, (hB4.grown hg5 (by have := hB4.size; omega) (fun k e => by cases e; have := HB.out; omega)).setCell (p := ⟨B0 + 1, 0, none⟩) (by show w.heap.size <= B0 + 1; have := HB.out; omega) _⟩
   rw [zfg, <- HN.out]
   exact b5.set _
 case done =>
  rintro D xs W hD hS ⟨hbr, b2, b3, hp, hB⟩ hK
  obtain ⟨v, hv, hr⟩ := hbr
  rw [<- ze7] at hr
  obtain ⟨A, cp, rfl, hh, hcp⟩ := Has.of_own hr
  have hL : (nmA xs).length <= 1000001 := by
   have := z3f 46 (ls s)
   rw [zb4, <- hS, List.length_map] at this
   rw [ze7]
   omega
  have hJ := zfa (nmA xs) (zfb hp)
  have c := zej hN (nmA xs) A cp W.heap.size W hh jH hcp (by omega) (by omega)
  have HE := jL (zfd hS hp)
  unfold zeh at c
  obtain ⟨Y, hY⟩ : ∃ Y, Y = (jN (nmA xs)).2.cells := ⟨_, rfl⟩
  have HY : Y.size = 11 /\ Y.all (·.oneCell') = true := by rw [hY]; exact ⟨rfl, zgv _ _ _ _⟩
  obtain ⟨n1, hn1⟩ : ∃ n, n = (jN (nmA xs)).1 := ⟨_, rfl⟩
  rw [<- hY, <- hn1] at c
  have HYY := jL hY
  have HNN := jL hn1
  have k1 := hv.cell
  clear hz3 hB0 hs hs9 a2 a3 a4 a5 a6 a7 hb3 hY hn1 hJ hS
  gi_wp2_with fail
  refine ⟨trivial, ?_⟩
  refine (callsIn_wide.2 c).mono ?_
  rintro e w4 ⟨rfl, hb4⟩
  replace b2 : Row w4 B0 26 hz := (hb4.block _ b2.lt).trans b2
  replace b3 : Boxed w4 (B0 + 1) 43 (.int .i64 0) := (hb4.block _ b3.lt).trans b3
  have hB4 := hB.trans (hb4.mono hB.size)
  have hK4 : w4.heap[D]? = some (.deferred (some [])) := (hb4.block D (Array.getElem?_eq_some_iff.1 hK).1).trans hK
  clear hb4 hK hv k1 hr hh
  gi_wp2_with (refine z2k _ rfl rfl _ _ _ rfl B0 (by exact rfl) Y (by exact rfl) _ _ b2 (by rw [HY.1]; exact zgx) (by rw [HY.1]; rfl) HY.2 ?_; intro w5 hr5 hg5; have b5 : Boxed w5 (B0 + 1) 43 (.int .i64 0) := b3.kept hg5 (by simp); have k5 := b5.cell; have f5 := b5.frozen)
  have b6 := b5.set (.int .i64 (n1 : Nat))
  have hr6 : zgy (w5.setCell ⟨B0 + 1, 0, none⟩ (.int .i64 (n1 : Nat))) B0 Y := (Below.heap_setCell _ _ _ B0 (by show B0 ≠ B0 + 1; omega)).trans hr5
  have hB6 : Below w.heap.size w (w5.setCell ⟨B0 + 1, 0, none⟩ (.int .i64 (n1 : Nat))) := (hB4.grown hg5 (by have := hB4.size; omega) (fun k e => by cases e; have := HB.out; omega)).setCell (p := ⟨B0 + 1, 0, none⟩) (by show w.heap.size <= B0 + 1; have := HB.out; omega) _
  have hK6 : (w5.setCell ⟨B0 + 1, 0, none⟩ (.int .i64 (n1 : Nat))).heap[D]? = some (.deferred (some [])) := (Below.heap_setCell _ _ _ D (by show D ≠ B0 + 1; have := HZ.out; omega)).trans ((hg5.block D (Array.getElem?_eq_some_iff.1 hK4).1 (by have := HZ.out; simp; omega)).trans hK4)
  refine ⟨by simp, .inl ⟨_, _, rfl, run_takeDeferred hK6, ?_⟩⟩
  have hr7 : zgy ((w5.setCell ⟨B0 + 1, 0, none⟩ (.int .i64 (n1 : Nat))).putObj D (.deferred none)) B0 Y := (World.putObj_heap_other (by have := HZ.out; omega)).trans hr6
  have hc7 := cell_kept b6.cell (grownBy_putObj' _ D (.deferred none)) (fun r e => by cases e; exact ⟨_, hK6, rfl⟩)
  refine ⟨.tuple #[.agg Y, .int .i64 (n1 : Nat)], ?_, ⟨?_, hB6.trans (belowK_b (w := w) jH _ D _ _ (by have := HZ.out; have := HB.out; omega) hK6 rfl rfl)⟩⟩
  ·exact zfe 2 3 rfl B0 (B0 + 1) rfl rfl Y hr7 HY.1 _ hc7 rfl
  ·rw [HE.out, <- HYY.out, <- HNN.out]
 case stop =>
  rintro D c pre W hD hpre ⟨⟨rfl, p, x, rfl, hp, hx⟩, b2, b3, hB⟩ hK
  have HE := jL (zfc hpre hp hx)
  rw [zfg] at b3
  clear hz3 hB0 hs hs9 a2 a3 a4 a5 a6 a7 hb3
  gi_wp2
  refine ⟨by simp, .inl ⟨_, _, rfl, run_takeDeferred hK, ?_⟩⟩
  have hr7 : zgy (W.putObj D (.deferred none)) B0 hz := (World.putObj_heap_other (by have := HZ.out; omega)).trans b2
  have hc7 := cell_kept b3.cell (grownBy_putObj' _ D (.deferred none)) (fun r e => by cases e; exact ⟨_, hK, rfl⟩)
  refine ⟨.tuple #[.agg hz, .int .i64 ((toA (ls x.1)).1 : Nat)], ?_, ⟨?_, hB.trans (belowK_b (w := w) jH _ D _ _ (by have := HZ.out; have := HB.out; omega) hK rfl rfl)⟩⟩
  ·exact zfe 2 3 rfl B0 (B0 + 1) rfl rfl hz hr7 rfl _ hc7 rfl
  ·rw [HE.out]
   rfl
end

section
open Go.RowKit Go.Shelf
set_option maxHeartbeats 16000000
def Hw (w : World) : Prop := zw5 w /\ U8 w /\ zey w
theorem zfi {w w' : World} (h : Hw w) (hb : Below w.heap.size w w') : Hw w' := ⟨zw7 h.1 hb, z4c h.2.1 hb, zez h.2.2 hb⟩
def zfj (F : FuncId) : Prop := ∀ (s : ByteArray) (w : World), s.size <= 1000000000 -> Hw w -> Calls Tryz.prog F #[.string s] w (zeh w (zhw (ls s)))
theorem zfk (t : List UInt8) : zhv (91 :: t) = pB t := by
 unfold zhv pB
 cases t with
 | nil => rfl
 | cons a t =>
   have e1 : (91 :: a :: t).getLast? = (a :: t).getLast? := by simp [List.getLast?_cons_cons]
   have e2 : ¬ (91 :: a :: t).length < 2 := by simp
   rw [e1]
   by_cases h : (a :: t).getLast? = some 93
   ·rw [if_neg (by simp [h]), if_pos h]
    rfl
   ·rw [if_pos (.inl h), if_neg h]
theorem zfl (s : List UInt8) : zhu s = if zqk s = true then pN s else pD s := rfl
theorem zfm (c : UInt8) (l : List UInt8) : Lib.hasPrefix l [c] = decide (l.head? = some c) := by
 unfold Lib.hasPrefix
 rw [Bool.eq_iff_iff, List.isPrefixOf_iff_prefix, decide_eq_true_iff]
 cases l with
 | nil => simp
 | cons a t => simp [eq_comm]
theorem zfn (s : ByteArray) (w : World) : Calls Tryz.prog 80 #[.string s, .string ⟨#[91]⟩] w fun e w' =>
 e = .returned (.tuple #[.string (if (ls s).head? = some 91 then bs ((ls s).drop 1) else s), .bool (decide ((ls s).head? = some 91))]) /\ w' = w := by
 have c := Any.strings_CutPrefix Tryz.lays103 s ⟨#[91]⟩ w
 have e : Lib.hasPrefix s.data.toList (⟨#[91]⟩ : ByteArray).data.toList = decide ((ls s).head? = some 91) := zfm 91 (ls s)
 unfold Lib.trimPrefix at c
 rw [e] at c
 refine c.mono ?_
 rintro r w' ⟨rfl, rfl⟩
 refine ⟨?_, rfl⟩
 by_cases h : (ls s).head? = some 91
 ·rw [jT h, if_pos rfl, if_pos h]
  rfl
 ·rw [jF h, if_neg (by simp), if_neg h]
theorem zfo : ∀ (f : Nat) (l m : List UInt8), zg8 f l = some m -> m.length <= l.length
 | _, [], m, h => by
   have : m = [] := by
    rename_i f
    cases f <;> (rw [zg8] at h; injection h with h; exact h.symm)
   rw [this]
   exact jH
 | 0, b :: r, m, h => by cases h
 | f + 1, b :: r, m, h => by
   rw [zg8] at h
   split at h
   ·cases hp : zg8 f r with
    | none => rw [hp] at h; cases h
    | some q =>
      rw [hp] at h
      injection h with h
      subst h
      have := zfo f r q hp
      simp
      omega
   ·split at h
    ·cases hp : zg8 f (r.drop 2) with
     | none => rw [hp] at h; cases h
     | some q =>
       rw [hp] at h
       injection h with h
       subst h
       have := zfo f (r.drop 2) q hp
       rw [List.length_drop] at this
       simp
       omega
    ·cases h
theorem zfp {l m : List UInt8} (h : zg9 l = some m) : m.length <= l.length := zfo _ l m h
theorem zfq (l : List UInt8) : (zrx l).length <= l.length := zrl l
theorem zfr (s : ByteArray) (w : World) (hs : s.size <= 1000000000) : Calls Tryz.prog 48 #[.string s, .string ⟨#[46]⟩] w fun e w' => e = .returned (.string (bs (zrx (ls s)))) /\ w' = w := by
 have c := Any.strings_TrimSuffix Tryz.lays102 s ⟨#[46]⟩ w (by omega)
 have HE : (⟨(Lib.trimSuffix s.data.toList (⟨#[46]⟩ : ByteArray).data.toList).toArray⟩ : ByteArray) = bs (zrx (ls s)) := by rw [show Lib.trimSuffix s.data.toList (⟨#[46]⟩ : ByteArray).data.toList = zrx (ls s) from zr0 (ls s)]; rfl
 rw [HE] at c
 exact c
set_option maxRecDepth 20000 in
theorem zfs (hN : zd1 111) (hP4 : zef 149) (hP6 : zeg 143) (hA : zsz 150) : zfj 84 := by
 intro s w hs hw
 have hr0 : zgy (w.alloc (.cells hz 26)) w.heap.size hz := zat w _ _
 have hb0 : Below w.heap.size w (w.alloc (.cells hz 26)) := (Below.refl _ _).alloc jH _
 have hw0 := zfi hw hb0
 have c1 := fun W => zfn s W
 unfold zhw
 rw [zb4]
 by_cases h1 : 1024 < s.size
 ·rw [if_pos h1]
  have hd : decide ((1024 : Int) < (s.size : Int)) = true := jT (by omega)
  clear c1 h1
  go_enter Tryz.func84, Tryz.ntmps84
  go_wp2
  exact zg1 2 3 rfl w.heap.size rfl hz (zat w _ _) rfl _ rfl rfl ⟨rfl, (Below.refl _ _).alloc jH _⟩
 ·rw [if_neg h1]
  have hd : decide ((1024 : Int) < (s.size : Int)) = false := jF (by omega)
  by_cases h2 : (ls s).head? = some 91
  ·rw [if_pos h2]
   simp only [if_pos h2, jT h2] at c1
   have hT : ls s = 91 :: (ls s).drop 1 := by
    cases hl : ls s with
    | nil => rw [hl] at h2; cases h2
    | cons a t =>
      rw [hl] at h2
      injection h2 with h2
      rw [h2]
      rfl
   have e1 : zhv (ls s) = pB ((ls s).drop 1) := by rw [hT]; exact zfk _
   rw [e1]
   have hX : (bs ((ls s).drop 1)).size <= 1000000000 := by rw [zb5, List.length_drop, zb4]; omega
   have c2 := zeo hP6 (bs ((ls s).drop 1)) _ hX hw0.1
   rw [zb0] at c2
   unfold zeh at c2 ⊢
   obtain ⟨X, hXe⟩ : ∃ X, X = bs ((ls s).drop 1) := ⟨_, rfl⟩
   obtain ⟨Y, hY⟩ : ∃ Y, Y = (pB ((ls s).drop 1)).2.cells := ⟨_, rfl⟩
   have HY : Y.size = 11 /\ Y.all (·.oneCell') = true := by rw [hY]; exact ⟨rfl, zgv _ _ _ _⟩
   obtain ⟨n1, hn1⟩ : ∃ n, n = (pB ((ls s).drop 1)).1 := ⟨_, rfl⟩
   rw [<- hXe, <- hY, <- hn1] at c2
   simp only [<- hXe] at c1
   rw [<- hY, <- hn1]
   clear hXe hY hn1 hX e1 hT h2 h1 hw hw0
   go_enter Tryz.func84, Tryz.ntmps84
   go_wp2_with fail
   refine (c1 _).mono ?_
   rintro e w0 ⟨rfl, rfl⟩
   go_wp2_with fail
   refine c2.mono ?_
   rintro e w1 ⟨rfl, hb1⟩
   have hr1 : zgy w1 w.heap.size hz := Row.below hr0 hb1 hr0.lt
   replace hb1 := hb0.trans (hb1.mono hb0.size)
   clear hr0 hb0 c1 c2
   go_wp2_with (refine zee rfl rfl _ _ rfl w.heap.size (by exact rfl) Y (by exact rfl) _ hr1 rfl HY.1 HY.2 ?_; intro w2 hr2 hg2)
   exact zg1 2 3 rfl w.heap.size rfl Y hr2 HY.1 _ rfl rfl ⟨rfl, zau hb1 hg2 jH jH⟩
  ·rw [if_neg h2]
   simp only [if_neg h2, jF h2] at c1
   have c2 := ze6 s (by omega) _ hw0.2.2
   cases hp : zg9 (ls s) with
   | none =>
     rw [hp] at c2
     clear h1 h2 hp hw hw0
     go_enter Tryz.func84, Tryz.ntmps84
     go_wp2_with fail
     refine (c1 _).mono ?_
     rintro e w0 ⟨rfl, rfl⟩
     go_wp2_with fail
     refine c2.mono ?_
     rintro e w1 ⟨rfl, hb1⟩
     have hr1 : zgy w1 w.heap.size hz := Row.below hr0 hb1 hr0.lt
     replace hb1 := hb0.trans (hb1.mono hb0.size)
     clear hr0 hb0 c1 c2
     go_wp2_with (refine zee rfl rfl _ _ rfl w.heap.size (by exact rfl) hz (by exact rfl) _ hr1 rfl rfl (zgv _ _ _ _) ?_; intro w2 hr2 hg2)
     exact zg1 2 3 rfl w.heap.size rfl hz hr2 rfl _ rfl rfl ⟨rfl, zau hb1 hg2 jH jH⟩
   | some m =>
     rw [hp] at c2
     rw [show (some m).getD [] = m from rfl, show (some m).isSome = true from rfl] at c2
     have hm := zfp hp
     rw [zb4] at hm
     have hu := zfq m
     simp only []
     rw [zfl]
     have hz1 : (bs (zrx m)).size <= 1000000 := by rw [zb5]; omega
     have c3 := fun W => zfr (bs m) W (by rw [zb5]; omega)
     have c4 := fun W => hN (bs (zrx m)) W (by omega)
     have c5 := fun W => zei hP4 (bs (zrx m)) W (by omega)
     have c6 := fun W hU => zfh hN hA (bs (zrx m)) W hz1 hU
     simp only [zb0] at c3 c4 c5 c6
     unfold zeh at c5 c6 ⊢
     have HW := jL hw
     obtain ⟨X, hX⟩ : ∃ X, X = bs (zrx m) := ⟨_, rfl⟩
     obtain ⟨M, hM⟩ : ∃ M, M = bs m := ⟨_, rfl⟩
     simp only [<- hX, <- hM] at c2 c3 c4 c5 c6
     cases hq : zqk (zrx m) with
     | true =>
       simp only [hq] at c4
       rw [if_pos rfl]
       obtain ⟨Y, hY⟩ : ∃ Y, Y = (pN (zrx m)).2.cells := ⟨_, rfl⟩
       have HY : Y.size = 11 /\ Y.all (·.oneCell') = true := by rw [hY]; exact ⟨rfl, zgv _ _ _ _⟩
       obtain ⟨n1, hn1⟩ : ∃ n, n = (pN (zrx m)).1 := ⟨_, rfl⟩
       simp only [<- hY, <- hn1] at c5 ⊢
       clear h1 h2 hp hw hw0 hX hM hm hu hz1 c6 hq hY hn1
       go_enter Tryz.func84, Tryz.ntmps84
       go_wp2_with fail
       refine (c1 _).mono ?_
       rintro e w0 ⟨rfl, rfl⟩
       go_wp2_with fail
       refine c2.mono ?_
       rintro e w1 ⟨rfl, hb1⟩
       have hr1 : zgy w1 w.heap.size hz := Row.below hr0 hb1 hr0.lt
       replace hb1 := hb0.trans (hb1.mono hb0.size)
       clear hr0 hb0 c1 c2
       go_wp2_with fail
       refine (c3 _).mono ?_
       rintro e w2 ⟨rfl, rfl⟩
       go_wp2_with fail
       refine (c4 _).mono ?_
       rintro e w3 ⟨rfl, hb3⟩
       replace hr1 : zgy w3 w.heap.size hz := Row.below hr1 hb3 hr1.lt
       replace hb3 := hb1.trans (hb3.mono hb1.size)
       clear hb1
       go_wp2_with fail
       refine (c5 _).mono ?_
       rintro e w4 ⟨rfl, hb4⟩
       replace hr1 : zgy w4 w.heap.size hz := Row.below hr1 hb4 hr1.lt
       replace hb4 := hb3.trans (hb4.mono hb3.size)
       clear hb3
       go_wp2_with (refine zee rfl rfl _ _ rfl w.heap.size (by exact rfl) Y (by exact rfl) _ hr1 rfl HY.1 HY.2 ?_; intro w5 hr5 hg5)
       exact zg1 2 3 rfl w.heap.size rfl Y hr5 HY.1 _ rfl rfl ⟨rfl, zau hb4 hg5 jH jH⟩
     | false =>
       simp only [hq] at c4
       rw [if_neg (by simp)]
       obtain ⟨Y, hY⟩ : ∃ Y, Y = (pD (zrx m)).2.cells := ⟨_, rfl⟩
       have HY : Y.size = 11 /\ Y.all (·.oneCell') = true := by rw [hY]; exact ⟨rfl, zgv _ _ _ _⟩
       obtain ⟨n1, hn1⟩ : ∃ n, n = (pD (zrx m)).1 := ⟨_, rfl⟩
       simp only [<- hY, <- hn1] at c6 ⊢
       clear h1 h2 hp hw hw0 hX hM hm hu hz1 c5 hq hY hn1
       go_enter Tryz.func84, Tryz.ntmps84
       go_wp2_with fail
       refine (c1 _).mono ?_
       rintro e w0 ⟨rfl, rfl⟩
       go_wp2_with fail
       refine c2.mono ?_
       rintro e w1 ⟨rfl, hb1⟩
       have hr1 : zgy w1 w.heap.size hz := Row.below hr0 hb1 hr0.lt
       replace hb1 := hb0.trans (hb1.mono hb0.size)
       clear hr0 hb0 c1 c2
       go_wp2_with fail
       refine (c3 _).mono ?_
       rintro e w2 ⟨rfl, rfl⟩
       go_wp2_with fail
       refine (c4 _).mono ?_
       rintro e w3 ⟨rfl, hb3⟩
       replace hr1 : zgy w3 w.heap.size hz := Row.below hr1 hb3 hr1.lt
       replace hb3 := hb1.trans (hb3.mono hb1.size)
       clear hb1
       have c7 := c6 w3 (zfi HW.out hb3).2.1
       clear c6
       go_wp2_with fail
       refine c7.mono ?_
       rintro e w4 ⟨rfl, hb4⟩
       replace hr1 : zgy w4 w.heap.size hz := Row.below hr1 hb4 hr1.lt
       replace hb4 := hb3.trans (hb4.mono hb3.size)
       clear hb3
       go_wp2_with (refine zee rfl rfl _ _ rfl w.heap.size (by exact rfl) Y (by exact rfl) _ hr1 rfl HY.1 HY.2 ?_; intro w5 hr5 hg5)
       exact zg1 2 3 rfl w.heap.size rfl Y hr5 HY.1 _ rfl rfl ⟨rfl, zau hb4 hg5 jH jH⟩
end

section
open Go.RowKit Go.Shelf
set_option maxHeartbeats 16000000
theorem z46 {s : ByteArray} {a b : List UInt8} (h : ls s = a ++ b) : s.extract 0 a.length = bs a := by
 rw [<- zb1 (s.extract 0 a.length), zb9, h]
 simp
theorem z47 {s : ByteArray} {a b : List UInt8} (h : ls s = a ++ b) : s.extract a.length s.size = bs b := by
 rw [<- zb1 (s.extract a.length s.size), zct, h]
 simp
theorem z48 (b : UInt8) : ([47, 63, 35] : List UInt8).contains b = z6y b := by
 unfold z6y
 simp only [List.contains_cons, List.contains_nil, Bool.or_false, Bool.or_assoc]
theorem z49 : ∀ l : List UInt8, (Lib.indexAny l [47, 63, 35] = -1 /\ zcx z6y l = l /\ zcy z6y l = []) \/ ∃ c r, zcy z6y l = c :: r /\ Lib.indexAny l [47, 63, 35] = ((zcx z6y l).length : Int)
 | [] => .inl ⟨rfl, rfl, rfl⟩
 | b :: l => by
   unfold Lib.indexAny
   rw [z48]
   by_cases hb : z6y b = true
   ·right
    refine ⟨b, l, ?_, ?_⟩
    ·unfold zcy
     rw [List.dropWhile_cons, if_neg (by simp [hb])]
    ·have e : zcx z6y (b :: l) = [] := by
      unfold zcx
      rw [List.takeWhile_cons, if_neg (by simp [hb])]
     rw [e, if_pos hb]
     rfl
   ·have e1 : zcx z6y (b :: l) = b :: zcx z6y l := by
     unfold zcx
     rw [List.takeWhile_cons, if_pos (by simp [hb])]
    have e2 : zcy z6y (b :: l) = zcy z6y l := by
     unfold zcy
     rw [List.dropWhile_cons, if_pos (by simp [hb])]
    rw [e1, e2, if_neg hb]
    rcases z49 l with ⟨h1, h2, h3⟩ | ⟨c, r, h1, h2⟩
    ·left
     refine ⟨?_, by rw [h2], h3⟩
     rw [h1]; rfl
    ·right
     refine ⟨c, r, h1, ?_⟩
     rw [h2]
     have h4 : (((zcx z6y l).length : Int) == -1) = false := by
      rw [beq_eq_false_iff_ne]
      omega
     rw [h4]
     simp
theorem z5a (s : ByteArray) (w : World) (hs : s.size <= 1000000000) : Calls Tryz.prog 81 #[.string s] w fun e w' => e = .returned (.tuple #[.string (bs (zcx z6y (ls s))), .string (bs (zcy z6y (ls s)))]) /\ Below w.heap.size w w' := by
 have ci := z42 s w hs
 have hbf := zcz z6y (ls s)
 rcases z49 (ls s) with ⟨h1, h2, h3⟩ | ⟨c, r, h1, h2⟩
 ·rw [h1] at ci
  rw [h2, h3, zb1]
  clear h1 h2 h3 hbf
  go_enter Tryz.func81, Tryz.ntmps81
  go_wp2_with (go_at_call 106; refine ci.mono ?_; rintro e w1 ⟨rfl, hb⟩)
  go_quiet (fail)
  go_wp2
  go_ret2
  exact ⟨rfl, hb.trans (below_drewN _ _ |>.mono hb.size)⟩
 ·rw [h2] at ci
  have f1 := z46 hbf.symm
  have f2 := z47 hbf.symm
  have hz : (zcx z6y (ls s)).length <= s.size := by
   have := congrArg List.length hbf
   rw [List.length_append, zb4] at this
   omega
  rw [<- f1, <- f2]
  generalize (zcx z6y (ls s)).length = k at *
  clear h1 h2 hbf f1 f2
  have g1 : (k : Int) <= (s.size : Int) := by omega
  go_enter Tryz.func81, Tryz.ntmps81
  go_wp2_with (go_at_call 106; refine ci.mono ?_; rintro e w1 ⟨rfl, hb⟩)
  go_quiet (fail)
  go_wp2
  go_ret2
  exact ⟨rfl, hb.trans (below_drewN _ _ |>.mono hb.size)⟩
theorem z5b (s : ByteArray) (w : World) (hs : s.size <= 1000000000) : Calls Tryz.prog 82 #[.string s] w fun e w' => e = .returned (.tuple #[.string (bs (z6z (ls s))), .string (bs (z60 (ls s)))]) /\ Below w.heap.size w w' := by
 have ci := fun W => Any.strings_LastIndex_one Tryz.lays148 s ⟨#[64]⟩ rfl (by omega) W
 obtain ⟨k, hk1, hk2⟩ : ∃ k : Int, Lib.lastIndexByte s (((⟨#[64]⟩ : ByteArray)[0]'(by decide)).toNat : Int) = k /\ ((k = -1 /\ z6z (ls s) = [] /\ z60 (ls s) = ls s) \/ ∃ i : Nat, k = i /\ i + 1 <= s.size /\ s.extract 0 i = bs (z6z (ls s)) /\ s.extract (i + 1) s.size = bs (z60 (ls s))) := by
  refine ⟨_, rfl, ?_⟩
  have hget : ∀ j (hj : j < s.size), s.data[j]! = (ls s)[j]'(by rw [zb4]; exact hj) := by
   intro j hj
   rw [getElem!_pos s.data j (by simpa using hj)]
   simp [ls]
  have h64 : (((⟨#[64]⟩ : ByteArray)[0]'(by decide)).toNat : Int) = 64 := rfl
  rw [h64]
  rcases Lib.lastIndexByte_spec s 64 with ⟨h1, h2⟩ | ⟨i, h1, h2, h3, h4⟩
  ·left
   have hm : 64 ∉ ls s := by
    intro hm
    obtain ⟨j, hj, hj2⟩ := List.getElem_of_mem hm
    have hj3 : j < s.size := by rw [<- zb4]; exact hj
    have := h2 j hj3
    rw [hget j hj3, hj2] at this
    exact this rfl
   exact ⟨h1, z7d hm⟩
  ·right
   refine ⟨i, h2, h1, ?_⟩
   have hi : i < (ls s).length := by rw [zb4]; exact h1
   have e1 : (ls s)[i]'hi = 64 := by
    rw [hget i h1] at h3
    exact UInt8.toNat_inj.1 (by rw [show (64 : UInt8).toNat = 64 from rfl]; omega)
   have e2 : ls s = (ls s).take i ++ 64 :: (ls s).drop (i + 1) := by
    rw [<- e1, List.getElem_cons_drop, List.take_append_drop]
   have e3 : 64 ∉ (ls s).drop (i + 1) := by
    intro hm
    obtain ⟨j, hj, hj2⟩ := List.getElem_of_mem hm
    rw [List.length_drop, zb4] at hj
    rw [List.getElem_drop] at hj2
    have := h4 (i + 1 + j) (by omega) (by omega)
    rw [hget _ (by omega), hj2] at this
    exact this rfl
   obtain ⟨u1, u2⟩ := z7e (u := (ls s).take i) e3
   rw [<- e2] at u1 u2
   rw [u1, u2]
   refine ⟨?_, ?_⟩
   ·have := z46 (s := s) (a := (ls s).take i) (b := 64 :: (ls s).drop (i + 1)) e2
    rwa [List.length_take, Nat.min_eq_left (by omega)] at this
   ·rw [<- zct, zb1]
 simp only [hk1] at ci
 clear hk1
 rcases hk2 with ⟨rfl, h1, h2⟩ | ⟨i, rfl, h1, h2, h3⟩
 ·rw [h1, h2, zb1]
  clear h1 h2
  go_enter Tryz.func82, Tryz.ntmps82
  go_wp2_with (go_at_call 107; refine (ci _).mono ?_; rintro e w1 ⟨rfl, rfl⟩)
  go_quiet (fail)
  go_wp2
  go_ret2
  refine ⟨?_, below_drewN _ _⟩
  have e0 : s.extract 0 (max (-1 : Int) 0).toNat = bs [] := by
   rw [show (max (-1 : Int) 0).toNat = 0 from rfl, <- zb1 (s.extract 0 0), zb9]
   simp
  show Ending.returned (.tuple #[.string (s.extract 0 (max (-1 : Int) 0).toNat), .string s]) = _
  rw [e0]
 ·rw [<- h2, <- h3]
  clear h2 h3
  have g1 : (i : Int) + 1 <= (s.size : Int) := by omega
  go_enter Tryz.func82, Tryz.ntmps82
  go_wp2_with (go_at_call 107; refine (ci _).mono ?_; rintro e w1 ⟨rfl, rfl⟩)
  go_quiet (fail)
  go_wp2
  go_ret2
  exact ⟨rfl, below_drewN _ _⟩
theorem z5c (s : ByteArray) (c : UInt8) (w : World) : Calls Tryz.prog 86 #[.string s, .string ⟨#[c]⟩] w fun e w' => e = .returned (.bool (decide ((ls s).head? = some c))) /\ w' = w := by
 have h := Any.strings_HasPrefix Tryz.lays99 s ⟨#[c]⟩ w
 have e : Lib.hasPrefix s.data.toList (⟨#[c]⟩ : ByteArray).data.toList = decide ((ls s).head? = some c) := zfm c (ls s)
 rw [e] at h
 exact h
theorem z5d (s : ByteArray) (c : UInt8) (w : World) : Calls Tryz.prog 80 #[.string s, .string ⟨#[c]⟩] w fun e w' =>
 e = .returned (.tuple #[.string (if (ls s).head? = some c then bs ((ls s).drop 1) else s), .bool (decide ((ls s).head? = some c))]) /\ w' = w := by
 have h := Any.strings_CutPrefix Tryz.lays103 s ⟨#[c]⟩ w
 have e : Lib.hasPrefix s.data.toList (⟨#[c]⟩ : ByteArray).data.toList = decide ((ls s).head? = some c) := zfm c (ls s)
 unfold Lib.trimPrefix at h
 rw [e] at h
 refine h.mono ?_
 rintro r w' ⟨rfl, rfl⟩
 refine ⟨?_, rfl⟩
 by_cases h : (ls s).head? = some c
 ·rw [jT h, if_pos rfl, if_pos h]
  rfl
 ·rw [jF h, if_neg (by simp), if_neg h]
def z5e (M : List UInt8) : List UInt8 -> Option (List UInt8 × List UInt8)
 | [] => some (M, [])
 | c :: d => if c = 58 then some (M, d) else none
def z5f (s : ByteArray) (w : World) (e : Ending) (w' : World) : Prop :=
 (∃ x y : ByteArray, ∃ ok : Bool, e = .returned (.tuple #[.string x, .string y, .bool ok]) /\ z63 (ls s) = (if ok = true then some (ls x, ls y) else none)) /\ Below w.heap.size w w'
theorem z5g (s : ByteArray) (w : World) (hs : s.size <= 1000000000) : Calls Tryz.prog 83 #[.string s] w (z5f s w) := by
 have c0 := fun W => z5c s 91 W
 by_cases hh : (ls s).head? = some 91
 ·rw [jT hh] at c0
  have ci := fun W => z4u s 93 W
  have hp : z63 (ls s) = z62 (ls s) := by unfold z63; rw [if_pos hh]
  clear hh
  have hbf := zcz (isB 93) (ls s)
  rcases zc9 93 (ls s) with ⟨h1, h2, h3⟩ | ⟨r, h1, h2⟩
  ·simp only [h1] at ci
   have HP : Hid (z63 (ls s) = none) := jL (hp.trans (by unfold z62; rw [h3]))
   clear h1 h2 h3 hp hbf
   go_enter Tryz.func83, Tryz.ntmps83
   go_wp2_with (first | (go_at_call 86; refine (c0 _).mono ?_; rintro e w1 ⟨rfl, rfl⟩) | (go_at_call 108; refine (ci _).mono ?_; rintro e w1 ⟨rfl, rfl⟩))
   go_ret3
   exact ⟨⟨_, _, false, rfl, HP.out⟩, Below.refl _ _⟩
  ·simp only [h2] at ci
   have f1 := z46 (s := s) (a := zcx (isB 93) (ls s) ++ [93]) (b := r) (by rw [List.append_assoc, List.singleton_append, <- h1, hbf])
   have f2 := z47 (s := s) (a := zcx (isB 93) (ls s) ++ [93]) (b := r) (by rw [List.append_assoc, List.singleton_append, <- h1, hbf])
   have hz : (zcx (isB 93) (ls s)).length + 1 <= s.size := by
    have := congrArg List.length hbf
    rw [h1, List.length_append, List.length_cons, zb4] at this
    omega
   rw [List.length_append, List.length_singleton] at f1 f2
   have hq : z62 (ls s) = z5e (zcx (isB 93) (ls s) ++ [93]) r := by
    unfold z62
    rw [h1]
    cases r <;> rfl
   have hp2 := hp.trans hq
   clear hp
   generalize zcx (isB 93) (ls s) ++ [93] = M at *
   generalize (zcx (isB 93) (ls s)).length = k at *
   clear h1 h2 hq hbf
   have g1 : (k : Int) + 1 <= (s.size : Int) := by omega
   have g0 : ((k : Int) + 1 == 0) = false := by rw [beq_eq_false_iff_ne]; omega
   cases r with
   | nil =>
     have he : (bs ([] : List UInt8)).toList.isEmpty = true := by rw [Lib.toList_data]; rfl
     have HF := jL f1
     have H2 := jL f2
     have HP : Hid (z63 (ls s) = some (M, [])) := jL hp2
     clear f1 f2 hp2
     go_enter Tryz.func83, Tryz.ntmps83
     go_wp2_with (first | (go_at_call 86; refine (c0 _).mono ?_; rintro e w1 ⟨rfl, rfl⟩) | (go_at_call 108; refine (ci _).mono ?_; rintro e w1 ⟨rfl, rfl⟩))
     go_quiet (fail)
     rw [H2.out]
     go_wp2
     go_ret3
     exact ⟨⟨_, _, true, rfl, by rw [HP.out, HF.out]; rfl⟩, below_drewN _ _⟩
   | cons c d =>
     have he : (bs (c :: d)).toList.isEmpty = false := by rw [Lib.toList_data]; rfl
     have c1 := fun W => z5d (bs (c :: d)) 58 W
     rw [zb0, List.head?_cons, List.drop_succ_cons, List.drop_zero] at c1
     have hd : (decide (some c = some (58 : UInt8))) = decide (c = 58) := by simp
     rw [hd] at c1
     obtain ⟨Y, hY⟩ : ∃ Y, Y = (if some c = some (58 : UInt8) then bs d else bs (c :: d)) := ⟨_, rfl⟩
     rw [<- hY] at c1
     obtain ⟨q, hq⟩ : ∃ q, q = decide (c = 58) := ⟨_, rfl⟩
     rw [<- hq] at c1
     have hfin : (if c = 58 then some (M, d) else none) = (if q = true then some (ls (s.extract 0 (k + 1)), ls Y) else none) := by
      rw [hY, hq, f1]
      by_cases h : c = 58
      ·subst h; rfl
      ·rw [if_neg h, jF h, if_neg (by simp)]
     have HP : Hid (z63 (ls s) = (if q = true then some (ls (s.extract 0 (k + 1)), ls Y) else none)) := jL (hp2.trans hfin)
     obtain ⟨R, hR⟩ : ∃ R, R = bs (c :: d) := ⟨_, rfl⟩
     rw [<- hR] at c1 he f2
     have H2 := jL f2
     clear f1 f2 hfin hY hq hR hd hp2
     cases q <;> (
      go_enter Tryz.func83, Tryz.ntmps83
      go_wp2_with (first | (go_at_call 86; refine (c0 _).mono ?_; rintro e w1 ⟨rfl, rfl⟩) | (go_at_call 108; refine (ci _).mono ?_; rintro e w1 ⟨rfl, rfl⟩))
      go_quiet (fail)
      rw [H2.out]
      go_wp2_with (go_at_call 80; refine (c1 _).mono ?_; rintro e w1 ⟨rfl, rfl⟩)
      go_ret3
      exact ⟨⟨_, _, _, rfl, HP.out⟩, below_drewN _ _⟩)
 ·have cc := zcw s 58 w hs
  unfold zcu at cc
  have hp : z63 (ls s) = some (ls (bs (zcx (isB 58) (ls s))), ls (bs ((zcy (isB 58) (ls s)).drop 1))) := by
   unfold z63
   rw [if_neg hh]
   rfl
  rw [jF hh] at c0
  generalize bs (zcx (isB 58) (ls s)) = X at *
  generalize bs ((zcy (isB 58) (ls s)).drop 1) = Y at *
  generalize (ls s).any (isB 58) = q at *
  have HP := jL hp
  clear hp hh
  go_enter Tryz.func83, Tryz.ntmps83
  go_wp2_with (first | (go_at_call 86; refine (c0 _).mono ?_; rintro e w1 ⟨rfl, rfl⟩) | (go_at_call 55; refine cc.mono ?_; rintro e w1 ⟨rfl, hb⟩))
  go_ret3
  exact ⟨⟨X, Y, true, rfl, HP.out⟩, hb⟩
end

end Go.Proofs.YtekaljeicfjkjaaGreatDoor
