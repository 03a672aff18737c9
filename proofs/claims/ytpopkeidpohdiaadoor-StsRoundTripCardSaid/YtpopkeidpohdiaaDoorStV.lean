/-
  The walk of StsRoundTrip: the call returns true.
-/
import Derived.Test.YtpopkeidpohdiaaDoorStF
namespace Go.Proofs.YtpopkeidpohdiaaDoor
open Go.RowKit

theorem fmp_len {p : Pv} (h0 : 0 ≤ p.age) (h1 : p.age ≤ 2147483647) : (fmtP p).1.length ≤ 100 := by
  have hz := dec_size p.age.toNat (by omega)
  rw [bs_size] at hz
  rw [fmp_good h0 h1]
  cases p.sub <;> simp [nmA, inclT] <;> omega

set_option maxRecDepth 20000 in
set_option maxHeartbeats 4000000 in
theorem walkStR (p : Pv) (w : World) (_hp : (Lit.int .i64 p.age).wf = true) (hpw : Pow w) :
    Calls Tryd.prog 3 #[.agg #[.int .i64 p.age, .bool p.sub]] w (Yes w) := by
  clear _hp
  have c1 := fun W (hb : Below w.heap.size w W) => stsFormat_any p W (pow_below hpw hb)
  have c2 := fun W => refStsFormat_any p W
  unfold FmpPost at c1 c2
  have hsame : ∀ T : ByteArray, (T.toList != T.toList) = false := fun T => by simp
  by_cases hr : 0 ≤ p.age ∧ p.age ≤ 2147483647
  · have hbk := fmtP_back hr.1 hr.2
    have hlen := fmp_len hr.1 hr.2
    have hr0 : (fmtP p).2 = 0 := by rw [fmp_good hr.1 hr.2]
    rw [hr0] at c1 c2
    generalize (fmtP p).1 = t at *
    have y1 : (bs t).size ≤ 1000000 := by rw [bs_size]; omega
    rw [← ls_bs t] at hbk
    have c3 := stsParse_known _ y1 hbk
    unfold PolPost at c3
    simp only at c3
    have heq : ∀ W, (binOp .eql 23 (.agg #[.int .i64 p.age, .bool p.sub]) (.agg #[.int .i64 p.age, .bool p.sub])).run Tryd.prog W = .ok (.bool true) W := fun W => by rw [eq_pv]; simp
    have e1 := hsame (bs t)
    generalize bs t = T at *
    generalize p.age = a at *
    generalize p.sub = sb at *
    clear hbk hlen hr0 y1 hr hsame
    go_enter Tryd.func3, Tryd.ntmps3
    go_wp2_with (first
      | (refine wpList_box_arr _ rfl 1 rfl _ _ rfl _ #[.int .i64 a, .bool sb] (by exact rfl) (by exact rfl) ?_
         intro W3 p3 hp3 hq3 hR3 hG3
         have hE : RSt19 w W3 p3 a sb := RSt19.start hp3 hR3 hG3)
      | (refine wpList_load_pv (by rfl) _ rfl p3 (by exact rfl) _ _ hE.row ?_))
    refine (c1 _ hE.bel).mono ?_
    rintro e w4 ⟨rfl, hb⟩
    have hE4 := hE.call hb
    clear hb hE hR3 hG3 hq3 hp3
    go_wp2_with (first | (refine wpList_load_pv (by rfl) _ rfl p3 (by exact rfl) _ _ hE4.row ?_))
    refine (c2 _).mono ?_
    rintro e w5 ⟨rfl, hb⟩
    have hE5 := hE4.call hb
    clear hb hE4
    go_wp2_with fail
    refine (c3 _).mono ?_
    rintro e w6 ⟨rfl, hb⟩
    have hE6 := hE5.call hb
    clear hb hE5
    go_wp2_with (first
      | (refine wpList_alloc_arr _ rfl 7 rfl _ rfl #[.int .i64 0, .bool false] zeroPv ?_; intro Y1 v1 hv1 hy1 hR1 hG1)
      | (refine wpList_store_pv rfl rfl _ _ rfl v1 (by exact rfl) a sb (by exact rfl) _ _ hR1 ?_
         intro Y2 hr1 hG2
         have hE7 := hE6.pass hv1 hG1 hG2)
      | (refine wpList_load_pv (by rfl) _ rfl v1 (by exact rfl) _ _ hr1 ?_)
      | (refine wpList_load_pv (by rfl) _ rfl p3 (by exact rfl) _ _ hE7.row ?_))
    have hb := hE7.bel
    clear hE7 hr1 hG1 hG2 hR1 hE6
    refine (awake19_any _).mono ?_
    rintro e wz ⟨rfl, hz2⟩
    have hz := hb.trans (hz2.mono hb.size)
    go_wp2
    go_ret
    exact ⟨rfl, hz⟩
  · have hF := fmp_bad (p := p) (by omega)
    rw [hF] at c1 c2
    have e1 := hsame (bs [])
    simp only at c1 c2
    generalize bs [] = T at *
    generalize p.age = a at *
    generalize p.sub = sb at *
    clear hF hr hsame
    go_enter Tryd.func3, Tryd.ntmps3
    go_wp2_with (first
      | (refine wpList_box_arr _ rfl 1 rfl _ _ rfl _ #[.int .i64 a, .bool sb] (by exact rfl) (by exact rfl) ?_
         intro W3 p3 hp3 hq3 hR3 hG3
         have hE : RSt19 w W3 p3 a sb := RSt19.start hp3 hR3 hG3)
      | (refine wpList_load_pv (by rfl) _ rfl p3 (by exact rfl) _ _ hE.row ?_))
    refine (c1 _ hE.bel).mono ?_
    rintro e w4 ⟨rfl, hb⟩
    have hE4 := hE.call hb
    clear hb hE hR3 hG3 hq3 hp3
    go_wp2_with (first | (refine wpList_load_pv (by rfl) _ rfl p3 (by exact rfl) _ _ hE4.row ?_))
    refine (c2 _).mono ?_
    rintro e w5 ⟨rfl, hb2⟩
    have hb := (hE4.call hb2).bel
    clear hb2 hE4
    go_wp2_with fail
    refine (awake19_any _).mono ?_
    rintro e wz ⟨rfl, hz2⟩
    have hz := hb.trans (hz2.mono hb.size)
    go_wp2
    go_ret
    exact ⟨rfl, hz⟩

end Go.Proofs.YtpopkeidpohdiaaDoor
