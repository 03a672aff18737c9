/-
Loopback of package origin and of its reference (written by tools/gen-OrL.py).
The reference's small functions of package url.
The reference's text of a URL (written by tools/gen-UrTx.py).
The reference's index of package url: the first byte that is in a set.
-/
import Derived.Test.YtekaljeicfjkjaaGreatDoorV26
import Derived.Test.YtekaljeicfjkjaaGreatDoorV33
import Derived.Test.YtekaljeicfjkjaaGreatDoorV07
namespace Go.Proofs.YtekaljeicfjkjaaGreatDoor
section
open Go.RowKit Go.Shelf
set_option maxHeartbeats 16000000
set_option maxRecDepth 20000 in
theorem zvn (hVal : zft 43) (hCov : zd4 44) (h : Hv) (w : World) (hw : h.Wf) (hn : h.name.length <= 1000000000) :
 Calls Tryz.prog 25 #[h.val] w fun e w' => e = .returned (.bool (zwa h)) /\ Below w.heap.size w w' := by
 cases hval : zhx h with
 | false =>
   have e9 : zwa h = false := by unfold zwa; rw [hval]; rfl
   rw [e9]
   obtain ⟨k, n, v, g⟩ := h
   obtain ⟨x0, x1, x2, x3, x4, x5, x6, x7, rfl⟩ := zf5 g hw.2.1
   have c1 := fun W => hVal ⟨k, n, v, [x0, x1, x2, x3, x4, x5, x6, x7]⟩ W hw hn
   rw [hval] at c1
   have eV : (Hv.mk k n v [x0, x1, x2, x3, x4, x5, x6, x7]).val = .agg #[.int .i64 k, .string (bs n), .int .u32 (v : Nat), .int .u16 (x0 : Nat), .int .u16 (x1 : Nat), .int .u16 (x2 : Nat), .int .u16 (x3 : Nat), .int .u16 (x4 : Nat), .int .u16 (x5 : Nat), .int .u16 (x6 : Nat), .int .u16 (x7 : Nat)] := rfl
   rw [eV] at c1 ⊢
   have hr : zgy (w.alloc (.cells #[.int .i64 k, .string (bs n), .int .u32 (v : Nat), .int .u16 (x0 : Nat), .int .u16 (x1 : Nat), .int .u16 (x2 : Nat), .int .u16 (x3 : Nat), .int .u16 (x4 : Nat), .int .u16 (x5 : Nat), .int .u16 (x6 : Nat), .int .u16 (x7 : Nat)] 26)) w.heap.size _ := zat w _ _
   generalize bs n = N at *
   clear eV hval hw hn e9
   go_enter Tryz.func25, Tryz.ntmps25
   go_wp2_with (refine zg0 rfl _ rfl w.heap.size (by exact rfl) _ hr rfl ?_)
   refine (c1 _).mono ?_
   rintro e w1 ⟨rfl, hb1⟩
   have hr1 := Row.below hr hb1 hr.lt
   replace hb1 := ((Below.refl _ w).alloc jH _).trans (hb1.mono (by simp))
   go_wp2
   go_ret
   exact ⟨rfl, hb1⟩
 | true =>
   rcases zil hval with ⟨_, e⟩ | e | e
   ·obtain ⟨n, hn1⟩ : ∃ n, n = h.name := ⟨_, rfl⟩
    rw [<- hn1] at e
    subst e
    have c1 := fun W => hVal (hvD n) W hw hn
    have e9 : zwa (hvD n) = ziy zv5 n := by unfold zwa; rw [hval]; rfl
    rw [e9]
    rw [hval] at c1
    have eV : (hvD n).val = .agg #[.int .i64 1, .string (bs n), .int .u32 0, .int .u16 0, .int .u16 0, .int .u16 0, .int .u16 0, .int .u16 0, .int .u16 0, .int .u16 0, .int .u16 0] := rfl
    rw [eV] at c1 ⊢
    have hr : zgy (w.alloc (.cells #[.int .i64 1, .string (bs n), .int .u32 0, .int .u16 0, .int .u16 0, .int .u16 0, .int .u16 0, .int .u16 0, .int .u16 0, .int .u16 0, .int .u16 0] 26)) w.heap.size _ := zat w _ _
    have c2 := fun W => hCov ⟨#[108, 111, 99, 97, 108, 104, 111, 115, 116]⟩ (bs n) W (by decide) (by rw [zb5]; exact hn)
    simp only [show ls ⟨#[108, 111, 99, 97, 108, 104, 111, 115, 116]⟩ = zv5 from rfl, zb0] at c2
    clear hn1 e9
    generalize ziy zv5 n = q at *
    generalize bs n = N at *
    clear eV hval hw hn
    go_enter Tryz.func25, Tryz.ntmps25
    go_wp2_with (refine zg0 rfl _ rfl w.heap.size (by exact rfl) _ hr rfl ?_)
    refine (c1 _).mono ?_
    rintro e w1 ⟨rfl, hb1⟩
    have hr1 := Row.below hr hb1 hr.lt
    replace hb1 := ((Below.refl _ w).alloc jH _).trans (hb1.mono (by simp))
    have p0 := Row.cell hr1 (k := 0) (by simp)
    have p1 := Row.cell hr1 (k := 1) (by simp)
    simp only [List.getElem_toArray, List.getElem_cons_zero, List.getElem_cons_succ] at p0 p1
    go_wp2_with fail
    refine (c2 _).mono ?_
    rintro e w2 ⟨rfl, hb2⟩
    go_wp2
    go_ret
    exact ⟨rfl, hb1.trans (hb2.mono hb1.size)⟩
   ·obtain ⟨v, hv1⟩ : ∃ v, v = h.v4 := ⟨_, rfl⟩
    rw [<- hv1] at e
    subst e
    have c1 := fun W => hVal (hv4 v) W hw hn
    have e9 : zwa (hv4 v) = decide ((v : Int) / 16777216 = 127) := by
     unfold zwa
     rw [hval]
     show (true && (v / 16777216 == 127)) = _
     rw [Bool.true_and, Bool.eq_iff_iff]
     simp
     omega
    rw [e9]
    rw [hval] at c1
    have eV : (hv4 v).val = .agg #[.int .i64 2, .string ⟨#[]⟩, .int .u32 (v : Nat), .int .u16 0, .int .u16 0, .int .u16 0, .int .u16 0, .int .u16 0, .int .u16 0, .int .u16 0, .int .u16 0] := rfl
    rw [eV] at c1 ⊢
    have hr : zgy (w.alloc (.cells #[.int .i64 2, .string ⟨#[]⟩, .int .u32 (v : Nat), .int .u16 0, .int .u16 0, .int .u16 0, .int .u16 0, .int .u16 0, .int .u16 0, .int .u16 0, .int .u16 0] 26)) w.heap.size _ := zat w _ _
    have hv9 : v < 4294967296 := hw.1
    clear eV hval hw hn hv1 e9
    go_enter Tryz.func25, Tryz.ntmps25
    go_wp2_with (refine zg0 rfl _ rfl w.heap.size (by exact rfl) _ hr rfl ?_)
    refine (c1 _).mono ?_
    rintro e w1 ⟨rfl, hb1⟩
    have hr1 := Row.below hr hb1 hr.lt
    replace hb1 := ((Below.refl _ w).alloc jH _).trans (hb1.mono (by simp))
    have p0 := Row.cell hr1 (k := 0) (by simp)
    have p2 := Row.cell hr1 (k := 2) (by simp)
    simp only [List.getElem_toArray, List.getElem_cons_zero, List.getElem_cons_succ] at p0 p2
    go_wp2
    go_ret
    exact ⟨zbx (by first | rfl | (rw [Bool.eq_iff_iff]; simp)), hb1⟩
   ·obtain ⟨g, hg1⟩ : ∃ g, g = h.v6 := ⟨_, rfl⟩
    rw [<- hg1] at e
    subst e
    have hg8 : g.length = 8 := hw.2.1
    have heq := zk6 g [0, 0, 0, 0, 0, 0, 0, 1] hg8 rfl
    obtain ⟨x0, x1, x2, x3, x4, x5, x6, x7, rfl⟩ := zf5 g hg8
    have c1 := fun W => hVal (hv6 [x0, x1, x2, x3, x4, x5, x6, x7]) W hw hn
    have e9 : zwa (hv6 [x0, x1, x2, x3, x4, x5, x6, x7]) = decide ([x0, x1, x2, x3, x4, x5, x6, x7] = [0, 0, 0, 0, 0, 0, 0, 1]) := by
     unfold zwa
     rw [hval]
     show (true && ([x0, x1, x2, x3, x4, x5, x6, x7] == [0, 0, 0, 0, 0, 0, 0, 1])) = _
     rw [Bool.true_and, Bool.eq_iff_iff]
     simp
    rw [e9]
    rw [hval] at c1
    have eV : (hv6 [x0, x1, x2, x3, x4, x5, x6, x7]).val = .agg #[.int .i64 3, .string ⟨#[]⟩, .int .u32 0, .int .u16 (x0 : Nat), .int .u16 (x1 : Nat), .int .u16 (x2 : Nat), .int .u16 (x3 : Nat), .int .u16 (x4 : Nat), .int .u16 (x5 : Nat), .int .u16 (x6 : Nat), .int .u16 (x7 : Nat)] := rfl
    rw [eV] at c1 ⊢
    rw [show av [x0, x1, x2, x3, x4, x5, x6, x7] = #[.int .u16 (x0 : Nat), .int .u16 (x1 : Nat), .int .u16 (x2 : Nat), .int .u16 (x3 : Nat), .int .u16 (x4 : Nat), .int .u16 (x5 : Nat), .int .u16 (x6 : Nat), .int .u16 (x7 : Nat)] from rfl, show av [0, 0, 0, 0, 0, 0, 0, 1] = #[.int .u16 0, .int .u16 0, .int .u16 0, .int .u16 0, .int .u16 0, .int .u16 0, .int .u16 0, .int .u16 1] from rfl] at heq
    have hr : zgy (w.alloc (.cells #[.int .i64 3, .string ⟨#[]⟩, .int .u32 0, .int .u16 (x0 : Nat), .int .u16 (x1 : Nat), .int .u16 (x2 : Nat), .int .u16 (x3 : Nat), .int .u16 (x4 : Nat), .int .u16 (x5 : Nat), .int .u16 (x6 : Nat), .int .u16 (x7 : Nat)] 26)) w.heap.size _ := zat w _ _
    generalize decide ([x0, x1, x2, x3, x4, x5, x6, x7] = [0, 0, 0, 0, 0, 0, 0, 1]) = q at *
    clear eV hval hw hn hg1 hg8 e9
    go_enter Tryz.func25, Tryz.ntmps25
    go_wp2_with (refine zg0 rfl _ rfl w.heap.size (by exact rfl) _ hr rfl ?_)
    refine (c1 _).mono ?_
    rintro e w1 ⟨rfl, hb1⟩
    have hr1 := Row.below hr hb1 hr.lt
    replace hb1 := ((Below.refl _ w).alloc jH _).trans (hb1.mono (by simp))
    obtain ⟨p0, p1, p2, p3, p4, p5, p6, p7, p8, p9, p10⟩ := zfu (k := 3) (N := ⟨#[]⟩) (v := 0) hr1
    go_wp2
    go_ret
    exact ⟨rfl, hb1⟩
set_option maxRecDepth 20000 in
theorem zvo (hVal : zft 45) (hCov : zd4 46) (h : Hv) (w : World) (hw : h.Wf) (hn : h.name.length <= 1000000000) :
 Calls Tryz.prog 26 #[h.val] w fun e w' => e = .returned (.bool (zwa h)) /\ Below w.heap.size w w' := by
 cases hval : zhx h with
 | false =>
   have e9 : zwa h = false := by unfold zwa; rw [hval]; rfl
   rw [e9]
   obtain ⟨k, n, v, g⟩ := h
   obtain ⟨x0, x1, x2, x3, x4, x5, x6, x7, rfl⟩ := zf5 g hw.2.1
   have c1 := fun W => hVal ⟨k, n, v, [x0, x1, x2, x3, x4, x5, x6, x7]⟩ W hw hn
   rw [hval] at c1
   have eV : (Hv.mk k n v [x0, x1, x2, x3, x4, x5, x6, x7]).val = .agg #[.int .i64 k, .string (bs n), .int .u32 (v : Nat), .int .u16 (x0 : Nat), .int .u16 (x1 : Nat), .int .u16 (x2 : Nat), .int .u16 (x3 : Nat), .int .u16 (x4 : Nat), .int .u16 (x5 : Nat), .int .u16 (x6 : Nat), .int .u16 (x7 : Nat)] := rfl
   rw [eV] at c1 ⊢
   have hr : zgy (w.alloc (.cells #[.int .i64 k, .string (bs n), .int .u32 (v : Nat), .int .u16 (x0 : Nat), .int .u16 (x1 : Nat), .int .u16 (x2 : Nat), .int .u16 (x3 : Nat), .int .u16 (x4 : Nat), .int .u16 (x5 : Nat), .int .u16 (x6 : Nat), .int .u16 (x7 : Nat)] 26)) w.heap.size _ := zat w _ _
   generalize bs n = N at *
   clear eV hval hw hn e9
   go_enter Tryz.func26, Tryz.ntmps26
   go_wp2_with (refine zg0 rfl _ rfl w.heap.size (by exact rfl) _ hr rfl ?_)
   refine (c1 _).mono ?_
   rintro e w1 ⟨rfl, hb1⟩
   have hr1 := Row.below hr hb1 hr.lt
   replace hb1 := ((Below.refl _ w).alloc jH _).trans (hb1.mono (by simp))
   go_wp2
   go_ret
   exact ⟨rfl, hb1⟩
 | true =>
   rcases zil hval with ⟨_, e⟩ | e | e
   ·obtain ⟨n, hn1⟩ : ∃ n, n = h.name := ⟨_, rfl⟩
    rw [<- hn1] at e
    subst e
    have c1 := fun W => hVal (hvD n) W hw hn
    have e9 : zwa (hvD n) = ziy zv5 n := by unfold zwa; rw [hval]; rfl
    rw [e9]
    rw [hval] at c1
    have eV : (hvD n).val = .agg #[.int .i64 1, .string (bs n), .int .u32 0, .int .u16 0, .int .u16 0, .int .u16 0, .int .u16 0, .int .u16 0, .int .u16 0, .int .u16 0, .int .u16 0] := rfl
    rw [eV] at c1 ⊢
    have hr : zgy (w.alloc (.cells #[.int .i64 1, .string (bs n), .int .u32 0, .int .u16 0, .int .u16 0, .int .u16 0, .int .u16 0, .int .u16 0, .int .u16 0, .int .u16 0, .int .u16 0] 26)) w.heap.size _ := zat w _ _
    have c2 := fun W => hCov ⟨#[108, 111, 99, 97, 108, 104, 111, 115, 116]⟩ (bs n) W (by decide) (by rw [zb5]; exact hn)
    simp only [show ls ⟨#[108, 111, 99, 97, 108, 104, 111, 115, 116]⟩ = zv5 from rfl, zb0] at c2
    clear hn1 e9
    generalize ziy zv5 n = q at *
    generalize bs n = N at *
    clear eV hval hw hn
    go_enter Tryz.func26, Tryz.ntmps26
    go_wp2_with (refine zg0 rfl _ rfl w.heap.size (by exact rfl) _ hr rfl ?_)
    refine (c1 _).mono ?_
    rintro e w1 ⟨rfl, hb1⟩
    have hr1 := Row.below hr hb1 hr.lt
    replace hb1 := ((Below.refl _ w).alloc jH _).trans (hb1.mono (by simp))
    have p0 := Row.cell hr1 (k := 0) (by simp)
    have p1 := Row.cell hr1 (k := 1) (by simp)
    simp only [List.getElem_toArray, List.getElem_cons_zero, List.getElem_cons_succ] at p0 p1
    go_wp2_with fail
    refine (c2 _).mono ?_
    rintro e w2 ⟨rfl, hb2⟩
    go_wp2
    go_ret
    exact ⟨rfl, hb1.trans (hb2.mono hb1.size)⟩
   ·obtain ⟨v, hv1⟩ : ∃ v, v = h.v4 := ⟨_, rfl⟩
    rw [<- hv1] at e
    subst e
    have c1 := fun W => hVal (hv4 v) W hw hn
    have e9 : zwa (hv4 v) = decide ((v : Int) / 16777216 = 127) := by
     unfold zwa
     rw [hval]
     show (true && (v / 16777216 == 127)) = _
     rw [Bool.true_and, Bool.eq_iff_iff]
     simp
     omega
    rw [e9]
    rw [hval] at c1
    have eV : (hv4 v).val = .agg #[.int .i64 2, .string ⟨#[]⟩, .int .u32 (v : Nat), .int .u16 0, .int .u16 0, .int .u16 0, .int .u16 0, .int .u16 0, .int .u16 0, .int .u16 0, .int .u16 0] := rfl
    rw [eV] at c1 ⊢
    have hr : zgy (w.alloc (.cells #[.int .i64 2, .string ⟨#[]⟩, .int .u32 (v : Nat), .int .u16 0, .int .u16 0, .int .u16 0, .int .u16 0, .int .u16 0, .int .u16 0, .int .u16 0, .int .u16 0] 26)) w.heap.size _ := zat w _ _
    have hv9 : v < 4294967296 := hw.1
    clear eV hval hw hn hv1 e9
    go_enter Tryz.func26, Tryz.ntmps26
    go_wp2_with (refine zg0 rfl _ rfl w.heap.size (by exact rfl) _ hr rfl ?_)
    refine (c1 _).mono ?_
    rintro e w1 ⟨rfl, hb1⟩
    have hr1 := Row.below hr hb1 hr.lt
    replace hb1 := ((Below.refl _ w).alloc jH _).trans (hb1.mono (by simp))
    have p0 := Row.cell hr1 (k := 0) (by simp)
    have p2 := Row.cell hr1 (k := 2) (by simp)
    simp only [List.getElem_toArray, List.getElem_cons_zero, List.getElem_cons_succ] at p0 p2
    go_wp2
    go_ret
    exact ⟨zbx (by first | rfl | (rw [Bool.eq_iff_iff]; simp)), hb1⟩
   ·obtain ⟨g, hg1⟩ : ∃ g, g = h.v6 := ⟨_, rfl⟩
    rw [<- hg1] at e
    subst e
    have hg8 : g.length = 8 := hw.2.1
    have heq := zk6 g [0, 0, 0, 0, 0, 0, 0, 1] hg8 rfl
    obtain ⟨x0, x1, x2, x3, x4, x5, x6, x7, rfl⟩ := zf5 g hg8
    have c1 := fun W => hVal (hv6 [x0, x1, x2, x3, x4, x5, x6, x7]) W hw hn
    have e9 : zwa (hv6 [x0, x1, x2, x3, x4, x5, x6, x7]) = decide ([x0, x1, x2, x3, x4, x5, x6, x7] = [0, 0, 0, 0, 0, 0, 0, 1]) := by
     unfold zwa
     rw [hval]
     show (true && ([x0, x1, x2, x3, x4, x5, x6, x7] == [0, 0, 0, 0, 0, 0, 0, 1])) = _
     rw [Bool.true_and, Bool.eq_iff_iff]
     simp
    rw [e9]
    rw [hval] at c1
    have eV : (hv6 [x0, x1, x2, x3, x4, x5, x6, x7]).val = .agg #[.int .i64 3, .string ⟨#[]⟩, .int .u32 0, .int .u16 (x0 : Nat), .int .u16 (x1 : Nat), .int .u16 (x2 : Nat), .int .u16 (x3 : Nat), .int .u16 (x4 : Nat), .int .u16 (x5 : Nat), .int .u16 (x6 : Nat), .int .u16 (x7 : Nat)] := rfl
    rw [eV] at c1 ⊢
    rw [show av [x0, x1, x2, x3, x4, x5, x6, x7] = #[.int .u16 (x0 : Nat), .int .u16 (x1 : Nat), .int .u16 (x2 : Nat), .int .u16 (x3 : Nat), .int .u16 (x4 : Nat), .int .u16 (x5 : Nat), .int .u16 (x6 : Nat), .int .u16 (x7 : Nat)] from rfl, show av [0, 0, 0, 0, 0, 0, 0, 1] = #[.int .u16 0, .int .u16 0, .int .u16 0, .int .u16 0, .int .u16 0, .int .u16 0, .int .u16 0, .int .u16 1] from rfl] at heq
    have hr : zgy (w.alloc (.cells #[.int .i64 3, .string ⟨#[]⟩, .int .u32 0, .int .u16 (x0 : Nat), .int .u16 (x1 : Nat), .int .u16 (x2 : Nat), .int .u16 (x3 : Nat), .int .u16 (x4 : Nat), .int .u16 (x5 : Nat), .int .u16 (x6 : Nat), .int .u16 (x7 : Nat)] 26)) w.heap.size _ := zat w _ _
    generalize decide ([x0, x1, x2, x3, x4, x5, x6, x7] = [0, 0, 0, 0, 0, 0, 0, 1]) = q at *
    clear eV hval hw hn hg1 hg8 e9
    go_enter Tryz.func26, Tryz.ntmps26
    go_wp2_with (refine zg0 rfl _ rfl w.heap.size (by exact rfl) _ hr rfl ?_)
    refine (c1 _).mono ?_
    rintro e w1 ⟨rfl, hb1⟩
    have hr1 := Row.below hr hb1 hr.lt
    replace hb1 := ((Below.refl _ w).alloc jH _).trans (hb1.mono (by simp))
    obtain ⟨p0, p1, p2, p3, p4, p5, p6, p7, p8, p9, p10⟩ := zfu (k := 3) (N := ⟨#[]⟩) (v := 0) hr1
    go_wp2
    go_ret
    exact ⟨rfl, hb1⟩
end

section
open Go.RowKit Go.Shelf
set_option maxHeartbeats 16000000
theorem z8l (s : ByteArray) (w : World) : Calls Tryz.prog 40 #[.string s] w fun e w' => e = .returned (.int .i64 (z6u (ls s))) /\ w = w' := by
 obtain ⟨q1, q2, q3, q4, t1, t2, t3, t4, _, _, e, _⟩ := z4g s
 rw [e]
 clear e
 cases q1 with
 | true =>
   go_enter Tryz.func40, Tryz.ntmps40
   go_wp2
   go_ret
   exact ⟨rfl, rfl⟩
 | false =>
   cases q2 with
   | true =>
     go_enter Tryz.func40, Tryz.ntmps40
     go_wp2
     go_ret
     exact ⟨rfl, rfl⟩
   | false =>
     cases q3 with
     | true =>
       go_enter Tryz.func40, Tryz.ntmps40
       go_wp2
       go_ret
       exact ⟨rfl, rfl⟩
     | false =>
       cases q4 with
       | true =>
         go_enter Tryz.func40, Tryz.ntmps40
         go_wp2
         go_ret
         exact ⟨rfl, rfl⟩
       | false =>
         go_enter Tryz.func40, Tryz.ntmps40
         go_wp2
         go_ret
         exact ⟨rfl, rfl⟩
theorem z8m (s : ByteArray) (w : World) : Calls Tryz.prog 15 #[.string s] w fun e w' => e = .returned (.bool (z6v (ls s))) /\ w = w' := by
 obtain ⟨q1, q2, q3, q4, t1, t2, t3, t4, _, e, _, _⟩ := z4g s
 rw [e]
 clear e
 cases q1 <;> cases q2 <;> cases q3 <;> cases q4 <;> (
  go_enter Tryz.func15, Tryz.ntmps15
  go_wp2
  go_ret
  exact ⟨rfl, rfl⟩)
theorem z8n (u : Uv) (w : World) :
 Calls Tryz.prog 19 #[.agg u.cells] w fun e w' => e = .returned (.int .i64 (if u.port = -1 then z6u u.scheme else u.port)) /\ Below w.heap.size w w' := by
 have hC := z9t u
 have c1 := fun W => z8l (bs u.scheme) W
 rw [zb0] at c1
 generalize u.cells = C at *
 generalize u.host.cells = H at *
 generalize bs u.scheme = S at *
 generalize z6u u.scheme = z at *
 generalize u.port = p at *
 by_cases hp : p = -1
 ·have hq : (p != -1) = false := by rw [hp]; rfl
  rw [if_pos hp]
  clear hp
  go_enter Tryz.func19, Tryz.ntmps19
  go_wp2_with (first
   | (refine zax _ rfl 1 rfl _ _ rfl _ C (by exact rfl) (by exact rfl) ?_; intro W1 g1 hg1 hl1 hR1 hG1; have hbw := zav (Below.refl w.heap.size w) hG1 jH
      obtain ⟨e0, e1, e3, e13, e14⟩ := hC.cell hR1)
   | (go_at_call 40; refine (c1 _).mono ?_; rintro e w5 ⟨rfl, rfl⟩))
  go_ret
  exact ⟨rfl, hbw⟩
 ·have hq : (p != -1) = true := by rw [bne, beq_eq_false_iff_ne.2 hp]; rfl
  rw [if_neg hp]
  clear hp
  go_enter Tryz.func19, Tryz.ntmps19
  go_wp2_with (first
   | (refine zax _ rfl 1 rfl _ _ rfl _ C (by exact rfl) (by exact rfl) ?_; intro W1 g1 hg1 hl1 hR1 hG1; have hbw := zav (Below.refl w.heap.size w) hG1 jH
      obtain ⟨e0, e1, e3, e13, e14⟩ := hC.cell hR1))
  go_ret
  exact ⟨rfl, hbw⟩
end

section
open Go.RowKit Go.Shelf
set_option maxHeartbeats 16000000
def z83 (p : Int) : List UInt8 := if 0 <= p then 58 :: Lib.decDigits p.toNat else if p < -1 then [58, 120] else []
def z84 (u : Uv) : List UInt8 := if z6v u.scheme = true then u.scheme ++ 58 :: 47 :: 47 :: (z7d u.user ++ (zhz u.host ++ z83 u.port) ++ u.rest) else u.scheme ++ 58 :: u.rest
theorem z85 {u : Uv} (h : -1 <= u.port) : z84 u = z7f u := by
 have e : z83 u.port = z7e u.port := by
  unfold z83 z7e
  by_cases hp : u.port = -1
  ·rw [if_pos hp, hp]
   rfl
  ·rw [if_neg hp, if_pos (by omega)]
 unfold z84 z7f
 rw [e]
theorem z86 : ls ⟨#[58, 47, 47]⟩ = [58, 47, 47] := rfl
theorem z87 : ls ⟨#[58, 120]⟩ = [58, 120] := rfl
theorem z88 (u : Uv) (h : USm u) (w : World) (hP : zw8 w) :
 Calls Tryz.prog 35 #[.agg u.cells] w fun e w' => e = .returned (.string (bs (z84 u))) /\ Below w.heap.size w w' := by
 have hw := h.wf; have hn := h.hn; have hs1 := h.s1; have hs2 := h.s2; have hs3 := h.s3; have h0 := h.p0; have h1 := h.p1
 have cF := fun W hW => zjc u.host W hw (Nat.le_trans hn (by decide)) hW
 unfold Hv.val at cF
 have hC := z9t u
 have hH : u.host.cells.size = 11 := rfl
 obtain ⟨C, hCe⟩ : ∃ C, C = u.cells := ⟨_, rfl⟩
 obtain ⟨H, hHe⟩ : ∃ H, H = u.host.cells := ⟨_, rfl⟩
 rw [<- hCe, <- hHe] at hC
 rw [<- hHe] at cF hH
 rw [<- hCe]
 have cs := fun W => z8m (bs u.scheme) W
 rw [zb0] at cs
 obtain ⟨T, hT⟩ : ∃ T, T = bs (z84 u) := ⟨_, rfl⟩
 rw [<- hT]
 have zS : (bs u.scheme).size <= 1000000000 := by rw [zb5]; omega
 have zR : (bs u.rest).size <= 1000000000 := by rw [zb5]; omega
 have zU : (bs u.user).size <= 1000000000 := by rw [zb5]; omega
 have zF : (bs (zhz u.host)).size <= 1000000084 := by rw [zb5]; have := zgt hw; omega
 clear h
 by_cases hq : z6v u.scheme = true
 ·rw [hq] at cs
  by_cases hu : u.user = []
  ·have hue : (bs u.user).toList.isEmpty = true := by rw [hu, Lib.toList_data]; rfl
   by_cases hp0 : 0 <= u.port
   ·have HT : Hid (T = bs u.scheme ++ ⟨#[58, 47, 47]⟩ ++ bs (zhz u.host) ++ (⟨#[58]⟩ ++ bs (Lib.decDigits u.port.toNat)) ++ bs u.rest) := by
     refine jL (hT.trans ?_)
     unfold z84 z83 z7d
     rw [if_pos hq, if_pos hu, if_pos hp0]
     apply zb2
     simp only [zb0, zb6, z86, z52]
     simp
    have ci := fun W => z10 u.port hp0 h1 W
    have zP : (bs (Lib.decDigits u.port.toNat)).size <= 19 := z1v _ (by omega)
    have t1 : (0 : Int) <= u.port := hp0
    have t3 : decide ((0 : Int) <= u.port) = true := jT t1
    clear hT hu
    generalize bs u.scheme = S at *
    generalize bs u.rest = R at *
    generalize bs u.user = U at *
    generalize bs u.host.name = N at *
    generalize bs (zhz u.host) = F at *
    generalize bs (Lib.decDigits u.port.toNat) = P at *
    generalize u.port = p at *
    clear hq hCe hHe hs1 hs2 hs3 hn hw h0 h1
    go_enter Tryz.func35, Tryz.ntmps35
    go_wp2_with (first
     | (refine zax _ rfl 1 rfl _ _ rfl _ C (by exact rfl) (by exact rfl) ?_; intro W1 g1 hg1 hl1 hR1 hG1; have hbw := zav (Below.refl w.heap.size w) hG1 jH
        obtain ⟨e0, e1, e3, e13, e14⟩ := hC.cell hR1)
     | (go_at_call 15; refine (cs _).mono ?_; rintro e w5 ⟨rfl, rfl⟩)
     | refine z9p rfl _ rfl g1 (by exact rfl) C hR1 H hC.hh hH ?_
     | (go_at_call 49; refine (cF _ (zxa hP hbw)).mono ?_; rintro e w6 ⟨rfl, hb6⟩
        replace hR1 : z9m w6 g1 C := Row.below hR1 hb6 (Row.lt hR1)
        replace hbw := hbw.trans (hb6.mono hbw.size)
        clear hb6 e0 e1 e3 e13 e14
        obtain ⟨e0, e1, e3, e13, e14⟩ := hC.cell hR1)
     | (go_at_call 50; refine (ci _).mono ?_; rintro e w6 ⟨rfl, hb6⟩
        replace hR1 : z9m w6 g1 C := Row.below hR1 hb6 (Row.lt hR1)
        replace hbw := hbw.trans (hb6.mono hbw.size)
        clear hb6 e0 e1 e3 e13 e14
        obtain ⟨e0, e1, e3, e13, e14⟩ := hC.cell hR1))
    go_ret
    exact ⟨by rw [HT.out]; rfl, hbw⟩
   ·by_cases hp0 : u.port < -1
    ·have HT : Hid (T = bs u.scheme ++ ⟨#[58, 47, 47]⟩ ++ bs (zhz u.host) ++ ⟨#[58, 120]⟩ ++ bs u.rest) := by
      refine jL (hT.trans ?_)
      unfold z84 z83 z7d
      rw [if_pos hq, if_pos hu, if_neg (show ¬ (0 : Int) <= u.port by omega), if_pos hp0]
      apply zb2
      simp only [zb0, zb6, z86, z87]
      simp
     have t1 : ¬ (0 : Int) <= u.port := by omega
     have t2 : u.port < -1 := hp0
     have t3 : decide ((0 : Int) <= u.port) = false := jF t1
     have t4 : decide (u.port < -1) = true := jT t2
     clear hT hu
     generalize bs u.scheme = S at *
     generalize bs u.rest = R at *
     generalize bs u.user = U at *
     generalize bs u.host.name = N at *
     generalize bs (zhz u.host) = F at *
     skip
     generalize u.port = p at *
     clear hq hCe hHe hs1 hs2 hs3 hn hw h0 h1
     go_enter Tryz.func35, Tryz.ntmps35
     go_wp2_with (first
      | (refine zax _ rfl 1 rfl _ _ rfl _ C (by exact rfl) (by exact rfl) ?_; intro W1 g1 hg1 hl1 hR1 hG1; have hbw := zav (Below.refl w.heap.size w) hG1 jH
         obtain ⟨e0, e1, e3, e13, e14⟩ := hC.cell hR1)
      | (go_at_call 15; refine (cs _).mono ?_; rintro e w5 ⟨rfl, rfl⟩)
      | refine z9p rfl _ rfl g1 (by exact rfl) C hR1 H hC.hh hH ?_
      | (go_at_call 49; refine (cF _ (zxa hP hbw)).mono ?_; rintro e w6 ⟨rfl, hb6⟩
         replace hR1 : z9m w6 g1 C := Row.below hR1 hb6 (Row.lt hR1)
         replace hbw := hbw.trans (hb6.mono hbw.size)
         clear hb6 e0 e1 e3 e13 e14
         obtain ⟨e0, e1, e3, e13, e14⟩ := hC.cell hR1))
     go_ret
     exact ⟨by rw [HT.out]; rfl, hbw⟩
    ·have HT : Hid (T = bs u.scheme ++ ⟨#[58, 47, 47]⟩ ++ bs (zhz u.host) ++ bs u.rest) := by
      refine jL (hT.trans ?_)
      unfold z84 z83 z7d
      rw [if_pos hq, if_pos hu, if_neg (show ¬ (0 : Int) <= u.port by omega), if_neg (show ¬ u.port < -1 by omega)]
      apply zb2
      simp only [zb0, zb6, z86]
      simp
     have t1 : ¬ (0 : Int) <= u.port := by omega
     have t2 : ¬ u.port < -1 := by omega
     have t3 : decide ((0 : Int) <= u.port) = false := jF t1
     have t4 : decide (u.port < -1) = false := jF t2
     clear hT hu
     generalize bs u.scheme = S at *
     generalize bs u.rest = R at *
     generalize bs u.user = U at *
     generalize bs u.host.name = N at *
     generalize bs (zhz u.host) = F at *
     skip
     generalize u.port = p at *
     clear hq hCe hHe hs1 hs2 hs3 hn hw h0 h1
     go_enter Tryz.func35, Tryz.ntmps35
     go_wp2_with (first
      | (refine zax _ rfl 1 rfl _ _ rfl _ C (by exact rfl) (by exact rfl) ?_; intro W1 g1 hg1 hl1 hR1 hG1; have hbw := zav (Below.refl w.heap.size w) hG1 jH
         obtain ⟨e0, e1, e3, e13, e14⟩ := hC.cell hR1)
      | (go_at_call 15; refine (cs _).mono ?_; rintro e w5 ⟨rfl, rfl⟩)
      | refine z9p rfl _ rfl g1 (by exact rfl) C hR1 H hC.hh hH ?_
      | (go_at_call 49; refine (cF _ (zxa hP hbw)).mono ?_; rintro e w6 ⟨rfl, hb6⟩
         replace hR1 : z9m w6 g1 C := Row.below hR1 hb6 (Row.lt hR1)
         replace hbw := hbw.trans (hb6.mono hbw.size)
         clear hb6 e0 e1 e3 e13 e14
         obtain ⟨e0, e1, e3, e13, e14⟩ := hC.cell hR1))
     go_ret
     exact ⟨by rw [HT.out]; rfl, hbw⟩
  ·have hue : (bs u.user).toList.isEmpty = false := by
    rw [Lib.toList_data]
    show u.user.isEmpty = false
    cases h : u.user with
    | nil => exact absurd h hu
    | cons _ _ => rfl
   by_cases hp0 : 0 <= u.port
   ·have HT : Hid (T = bs u.scheme ++ ⟨#[58, 47, 47]⟩ ++ (bs u.user ++ ⟨#[64]⟩) ++ bs (zhz u.host) ++ (⟨#[58]⟩ ++ bs (Lib.decDigits u.port.toNat)) ++ bs u.rest) := by
     refine jL (hT.trans ?_)
     unfold z84 z83 z7d
     rw [if_pos hq, if_neg hu, if_pos hp0]
     apply zb2
     simp only [zb0, zb6, z86, z51, z52]
     simp
    have ci := fun W => z10 u.port hp0 h1 W
    have zP : (bs (Lib.decDigits u.port.toNat)).size <= 19 := z1v _ (by omega)
    have t1 : (0 : Int) <= u.port := hp0
    have t3 : decide ((0 : Int) <= u.port) = true := jT t1
    clear hT hu
    generalize bs u.scheme = S at *
    generalize bs u.rest = R at *
    generalize bs u.user = U at *
    generalize bs u.host.name = N at *
    generalize bs (zhz u.host) = F at *
    generalize bs (Lib.decDigits u.port.toNat) = P at *
    generalize u.port = p at *
    clear hq hCe hHe hs1 hs2 hs3 hn hw h0 h1
    go_enter Tryz.func35, Tryz.ntmps35
    go_wp2_with (first
     | (refine zax _ rfl 1 rfl _ _ rfl _ C (by exact rfl) (by exact rfl) ?_; intro W1 g1 hg1 hl1 hR1 hG1; have hbw := zav (Below.refl w.heap.size w) hG1 jH
        obtain ⟨e0, e1, e3, e13, e14⟩ := hC.cell hR1)
     | (go_at_call 15; refine (cs _).mono ?_; rintro e w5 ⟨rfl, rfl⟩)
     | refine z9p rfl _ rfl g1 (by exact rfl) C hR1 H hC.hh hH ?_
     | (go_at_call 49; refine (cF _ (zxa hP hbw)).mono ?_; rintro e w6 ⟨rfl, hb6⟩
        replace hR1 : z9m w6 g1 C := Row.below hR1 hb6 (Row.lt hR1)
        replace hbw := hbw.trans (hb6.mono hbw.size)
        clear hb6 e0 e1 e3 e13 e14
        obtain ⟨e0, e1, e3, e13, e14⟩ := hC.cell hR1)
     | (go_at_call 50; refine (ci _).mono ?_; rintro e w6 ⟨rfl, hb6⟩
        replace hR1 : z9m w6 g1 C := Row.below hR1 hb6 (Row.lt hR1)
        replace hbw := hbw.trans (hb6.mono hbw.size)
        clear hb6 e0 e1 e3 e13 e14
        obtain ⟨e0, e1, e3, e13, e14⟩ := hC.cell hR1))
    go_ret
    exact ⟨by rw [HT.out]; rfl, hbw⟩
   ·by_cases hp0 : u.port < -1
    ·have HT : Hid (T = bs u.scheme ++ ⟨#[58, 47, 47]⟩ ++ (bs u.user ++ ⟨#[64]⟩) ++ bs (zhz u.host) ++ ⟨#[58, 120]⟩ ++ bs u.rest) := by
      refine jL (hT.trans ?_)
      unfold z84 z83 z7d
      rw [if_pos hq, if_neg hu, if_neg (show ¬ (0 : Int) <= u.port by omega), if_pos hp0]
      apply zb2
      simp only [zb0, zb6, z86, z51, z87]
      simp
     have t1 : ¬ (0 : Int) <= u.port := by omega
     have t2 : u.port < -1 := hp0
     have t3 : decide ((0 : Int) <= u.port) = false := jF t1
     have t4 : decide (u.port < -1) = true := jT t2
     clear hT hu
     generalize bs u.scheme = S at *
     generalize bs u.rest = R at *
     generalize bs u.user = U at *
     generalize bs u.host.name = N at *
     generalize bs (zhz u.host) = F at *
     skip
     generalize u.port = p at *
     clear hq hCe hHe hs1 hs2 hs3 hn hw h0 h1
     go_enter Tryz.func35, Tryz.ntmps35
     go_wp2_with (first
      | (refine zax _ rfl 1 rfl _ _ rfl _ C (by exact rfl) (by exact rfl) ?_; intro W1 g1 hg1 hl1 hR1 hG1; have hbw := zav (Below.refl w.heap.size w) hG1 jH
         obtain ⟨e0, e1, e3, e13, e14⟩ := hC.cell hR1)
      | (go_at_call 15; refine (cs _).mono ?_; rintro e w5 ⟨rfl, rfl⟩)
      | refine z9p rfl _ rfl g1 (by exact rfl) C hR1 H hC.hh hH ?_
      | (go_at_call 49; refine (cF _ (zxa hP hbw)).mono ?_; rintro e w6 ⟨rfl, hb6⟩
         replace hR1 : z9m w6 g1 C := Row.below hR1 hb6 (Row.lt hR1)
         replace hbw := hbw.trans (hb6.mono hbw.size)
         clear hb6 e0 e1 e3 e13 e14
         obtain ⟨e0, e1, e3, e13, e14⟩ := hC.cell hR1))
     go_ret
     exact ⟨by rw [HT.out]; rfl, hbw⟩
    ·have HT : Hid (T = bs u.scheme ++ ⟨#[58, 47, 47]⟩ ++ (bs u.user ++ ⟨#[64]⟩) ++ bs (zhz u.host) ++ bs u.rest) := by
      refine jL (hT.trans ?_)
      unfold z84 z83 z7d
      rw [if_pos hq, if_neg hu, if_neg (show ¬ (0 : Int) <= u.port by omega), if_neg (show ¬ u.port < -1 by omega)]
      apply zb2
      simp only [zb0, zb6, z86, z51]
      simp
     have t1 : ¬ (0 : Int) <= u.port := by omega
     have t2 : ¬ u.port < -1 := by omega
     have t3 : decide ((0 : Int) <= u.port) = false := jF t1
     have t4 : decide (u.port < -1) = false := jF t2
     clear hT hu
     generalize bs u.scheme = S at *
     generalize bs u.rest = R at *
     generalize bs u.user = U at *
     generalize bs u.host.name = N at *
     generalize bs (zhz u.host) = F at *
     skip
     generalize u.port = p at *
     clear hq hCe hHe hs1 hs2 hs3 hn hw h0 h1
     go_enter Tryz.func35, Tryz.ntmps35
     go_wp2_with (first
      | (refine zax _ rfl 1 rfl _ _ rfl _ C (by exact rfl) (by exact rfl) ?_; intro W1 g1 hg1 hl1 hR1 hG1; have hbw := zav (Below.refl w.heap.size w) hG1 jH
         obtain ⟨e0, e1, e3, e13, e14⟩ := hC.cell hR1)
      | (go_at_call 15; refine (cs _).mono ?_; rintro e w5 ⟨rfl, rfl⟩)
      | refine z9p rfl _ rfl g1 (by exact rfl) C hR1 H hC.hh hH ?_
      | (go_at_call 49; refine (cF _ (zxa hP hbw)).mono ?_; rintro e w6 ⟨rfl, hb6⟩
         replace hR1 : z9m w6 g1 C := Row.below hR1 hb6 (Row.lt hR1)
         replace hbw := hbw.trans (hb6.mono hbw.size)
         clear hb6 e0 e1 e3 e13 e14
         obtain ⟨e0, e1, e3, e13, e14⟩ := hC.cell hR1))
     go_ret
     exact ⟨by rw [HT.out]; rfl, hbw⟩
 ·have hq' : z6v u.scheme = false := by simpa using hq
  rw [hq'] at cs
  have HT : Hid (T = bs u.scheme ++ ⟨#[58]⟩ ++ bs u.rest) := by
   refine jL (hT.trans ?_)
   unfold z84
   rw [if_neg hq]
   apply zb2
   simp only [zb0, zb6, z52]
   simp
  clear hT
  generalize bs u.scheme = S at *
  generalize bs u.rest = R at *
  generalize bs u.user = U at *
  generalize bs u.host.name = N at *
  generalize u.port = p at *
  clear hq hq' hCe hHe hs1 hs2 hs3 hn hw cF h0 h1
  go_enter Tryz.func35, Tryz.ntmps35
  go_wp2_with (first
   | (refine zax _ rfl 1 rfl _ _ rfl _ C (by exact rfl) (by exact rfl) ?_; intro W1 g1 hg1 hl1 hR1 hG1; have hbw := zav (Below.refl w.heap.size w) hG1 jH
      obtain ⟨e0, e1, e3, e13, e14⟩ := hC.cell hR1)
   | (go_at_call 15; refine (cs _).mono ?_; rintro e w5 ⟨rfl, rfl⟩))
  go_ret
  exact ⟨by rw [HT.out]; rfl, hbw⟩
end

section
open Go.RowKit Go.Shelf
set_option maxHeartbeats 16000000
def inS (c : List UInt8) (b : UInt8) : Bool := c.contains b
theorem z93 {S : ByteArray} {b : UInt8} (h : ∀ j (hj : j < S.size), b ≠ S[j]) : inS (ls S) b = false := by
 unfold inS
 rw [Bool.eq_false_iff]
 intro hc
 rw [List.contains_iff_mem] at hc
 obtain ⟨j, hj, e⟩ := List.getElem_of_mem hc
 have hj2 : j < S.size := by rw [<- zb4]; exact hj
 have : (ls S)[j] = S[j] := by
  have := Lib.data_getElem? S j hj2
  rw [List.getElem?_eq_getElem (by rw [Lib.size_eq] at hj2; exact hj2)] at this
  exact Option.some.inj this
 exact h j hj2 (e.symm.trans this)
theorem z94 {S : ByteArray} {j : Nat} (hj : j < S.size) : inS (ls S) S[j] = true := by
 unfold inS
 rw [List.contains_iff_mem]
 exact List.mem_of_getElem? (Lib.data_getElem? S j hj)
theorem z95 {p : UInt8 -> Bool} {s : ByteArray} (h : ∀ b ∈ (ls s).take s.size, p b = false) : (zcx p (ls s)).length = s.size := by
 rw [List.take_of_length_le (by rw [zb4]; exact jH)] at h
 rw [(zc2 h).1, zb4]
theorem z96 (s : ByteArray) (n : Nat) (hn : n < s.size) (hl : n < (ls s).length) : (ls s)[n] = s[n] := by
 have := Lib.data_getElem? s n hn
 rw [List.getElem?_eq_getElem (by rw [Lib.size_eq] at hn; exact hn)] at this
 exact Option.some.inj this
theorem z97 (s : ByteArray) (n : Nat) (hn : n < s.size) : ls s = (ls s).take n ++ s[n] :: (ls s).drop (n + 1) := by
 have hl : n < (ls s).length := by rw [zb4]; exact hn
 conv => lhs; rw [<- List.take_append_drop n (ls s), List.drop_eq_getElem_cons hl, z96 s n hn hl]
 rfl
theorem z98 {p : UInt8 -> Bool} {s : ByteArray} {n : Nat} (hn : n < s.size) (h : ∀ b ∈ (ls s).take n, p b = false) (hp : p s[n] = true) : (zcx p (ls s)).length = n := by
 have e := z97 s n hn
 obtain ⟨h1, _⟩ := zc3 h (b := s[n] :: (ls s).drop (n + 1)) _ _ rfl hp
 rw [<- e] at h1
 rw [h1, List.length_take, zb4]
 omega
theorem z99 {p : UInt8 -> Bool} {s : ByteArray} {n : Nat} (hn : n < s.size) (h : ∀ b ∈ (ls s).take n, p b = false) (hp : p s[n] = false) : ∀ b ∈ (ls s).take (n + 1), p b = false := by
 have hl : n < (ls s).length := by rw [zb4]; exact hn
 intro b hb
 rw [<- List.take_append_getElem hl] at hb
 rcases List.mem_append.1 hb with hb | hb
 ·exact h b hb
 ·rw [List.mem_singleton.1 hb, z96 s n hn hl]
  exact hp
theorem yaa (s S : ByteArray) (w : World) (hs : s.size <= 1000000000) (hS : S.size <= 1000000000) :
 Calls Tryz.prog 60 #[.string s, .string S] w fun e w' => e = .returned (.int .i64 ((zcx (inS (ls S)) (ls s)).length : Nat)) /\ Below w.heap.size w w' := by
 go_enter Tryz.func60, Tryz.ntmps60
 go_wp2
 go_loopw [5, 6] (fun i _ wr => ∃ n : Nat, n <= s.size /\ i = .int .i64 n /\ Below w.heap.size w wr /\ Hid (∀ b ∈ (ls s).take n, inS (ls S) b = false)) (fun i _ _ => s.size - (intOf i).toNat)
 case atStart => exact ⟨0, Nat.zero_le _, rfl, Below.refl _ _, jL (fun b hb => by simp at hb)⟩
 case round =>
  obtain ⟨n, hn, rfl, hbw, HN⟩ := hrel
  by_cases hlt : n < s.size
  ·go_wp2
   go_loopw [6] (fun k wk => ∃ m : Nat, m <= S.size /\ k = .int .i64 m /\ Below w.heap.size w wk /\ Hid (∀ j (hj : j < S.size), j < m -> s[n] ≠ S[j])) (fun k _ => S.size - (intOf k).toNat)
   case atStart => exact ⟨0, Nat.zero_le _, rfl, hbw, jL (fun j hj h => by omega)⟩
   case round =>
    obtain ⟨m, hm, rfl, hbk, HM⟩ := hrel
    by_cases hmt : m < S.size
    ·by_cases he : s[n] = S[m]
     ·have hq : (((s[n]).toNat : Int) == ((S[m]).toNat : Int)) = true := by rw [he]; simp
      have HF : Hid ((zcx (inS (ls S)) (ls s)).length = n) := jL (z98 hlt HN.out (by rw [he]; exact z94 hmt))
      clear he
      go_wp2
      go_quiet (fail)
      go_wp2
      go_ret
      exact ⟨by rw [HF.out]; rfl, hbk.trans ((below_drewN _ _).mono hbk.size)⟩
     ·have hq : (((s[n]).toNat : Int) == ((S[m]).toNat : Int)) = false := by
       rw [beq_eq_false_iff_ne]
       intro h
       exact he (UInt8.toNat_inj.1 (by omega))
      have HM2 : Hid (∀ j (hj : j < S.size), j < m + 1 -> s[n] ≠ S[j]) := jL (fun j hj h => by
       by_cases hjm : j = m
       ·subst hjm; exact he
       ·exact HM.out j hj (by omega))
      clear he
      go_wp2
      go_quiet (fail)
      go_wp2
      go_roundw
      case rel => exact ⟨m + 1, by omega, by go_num, hbk.trans ((below_drewN _ _).mono hbk.size), HM2⟩
      case measure => simp [intOf]; omega
    ·obtain rfl : m = S.size := by omega
     have HN2 : Hid (∀ b ∈ (ls s).take (n + 1), inS (ls S) b = false) := jL (z99 hlt HN.out (z93 (fun j hj => HM.out j hj hj)))
     go_wp2
     go_roundw
     case rel => exact ⟨n + 1, by omega, by go_num, hbk, HN2⟩
     case measure => simp [intOf]; omega
  ·obtain rfl : n = s.size := by omega
   have HF := jL (z95 HN.out)
   go_wp2
   go_ret
   exact ⟨by rw [HF.out]; rfl, hbw⟩
end

end Go.Proofs.YtekaljeicfjkjaaGreatDoor
