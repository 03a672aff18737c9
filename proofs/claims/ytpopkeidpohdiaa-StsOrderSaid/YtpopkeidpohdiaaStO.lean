/-
  The walk of StsOrder: the call returns true.
-/
import Derived.Test.YtpopkeidpohdiaaStN
import Derived.Test.YtpopkeidpohdiaaStE
import Derived.Test.YtpopkeidpohdiaaStJ
import Derived.Test.YtpopkeidpohdiaaDiI
import Derived.Test.YtpopkeidpohdiaaKeepS
import Derived.Test.YtpopkeidpohdiaaMod
import Derived.Test.YtpopkeidpohdiaaDvO
namespace Go.Proofs.Ytpopkeidpohdiaa
open Go.RowKit

theorem wf_i64o {v : Int} (h : (Lit.int .i64 v).wf = true) : -9223372036854775808 ≤ v ∧ v ≤ 9223372036854775807 := by
  have h1 : IntKind.i64.min = -9223372036854775808 := rfl
  have h2 : IntKind.i64.max = 9223372036854775807 := rfl
  simp [Lit.wf, h1, h2] at h
  exact h
theorem short_two5 (a b : List UInt8) : shortB 500 [bs a, bs b] = (decide (a.length ≤ 500) && decide (b.length ≤ 500)) := by
  unfold shortB
  simp only [List.all_cons, List.all_nil, Bool.and_true, bs_size]
  congr 1 <;> exact decide_eq_decide.2 (by omega)
theorem tyDvD : ∃ d, Try.prog.underlying 32 = some d ∧ d.isRow = true := by
  have hu := dvRow
  cases hx : Try.prog.underlying 32 with
  | none => rw [hx] at hu; cases hu
  | some d => exact ⟨d, rfl, by rw [hx] at hu; simpa using hu⟩
/-- The directives are short. -/
def ShD (l : List Dv) : Prop := ∀ d ∈ l, d.name.length ≤ 500 ∧ d.value.length ≤ 500
theorem ShD.next {l : List Dv} {k : Nat} (h : ShD (l.take k)) (hk : k < l.length) (h1 : l[k].name.length ≤ 500 ∧ l[k].value.length ≤ 500) : ShD (l.take (k + 1)) := by
  intro d hd
  rw [List.take_succ_eq_append_getElem hk, List.mem_append, List.mem_singleton] at hd
  rcases hd with hd | rfl
  · exact h d hd
  · exact h1
theorem ShD.sm {l : List Dv} (h : ShD l) : SmDv l := fun d hd => by have := h d hd; omega
theorem below_drewO {B : Nat} {w x : World} (h : Below B w x) (k : Nat) : Below B w (x.drewN k) := h.trans ⟨rfl, rfl, rfl, Nat.le_refl _, fun _ _ => rfl⟩

set_option maxRecDepth 20000 in
set_option maxHeartbeats 8000000 in
theorem walkStO (A : Option Addr) (n c : Nat) (i k : Int) (w : World) (hIn : ∃ l, InDv w A n c l) (hi : (Lit.int .i64 i).wf = true) (hk : (Lit.int .i64 k).wf = true) :
    Calls Try.prog 4 #[.slice A n c, .int .i64 i, .int .i64 k] w (Yes w) := by
  obtain ⟨l, hA, hnc, hcm⟩ := hIn
  have hi := wf_i64o hi
  have hk := wf_i64o hk
  by_cases h2 : n < 2
  · have n0 : ((n : Int) < 2) := by omega
    clear hA h2 hi hk
    go_enter Try.func4, Try.ntmps4
    go_wp2_with fail
    refine (awake19_any _).mono ?_
    rintro e wz ⟨rfl, hz⟩
    go_wp2
    go_ret
    exact ⟨rfl, hz⟩
  by_cases h40 : 40 < n
  · have n0 : ¬ ((n : Int) < 2) := by omega
    have n1 : ((40 : Int) < n) := by omega
    clear hA h2 hi hk h40
    go_enter Try.func4, Try.ntmps4
    go_wp2_with fail
    refine (awake19_any _).mono ?_
    rintro e wz ⟨rfl, hz⟩
    go_wp2
    go_ret
    exact ⟨rfl, hz⟩
  have n0 : ¬ ((n : Int) < 2) := by omega
  have n1 : ¬ ((40 : Int) < n) := by omega
  have hn40 : n ≤ 40 := by omega
  have hn2 : 2 ≤ n := by omega
  have hAz : A = none → c = 0 := by
    intro e
    obtain ⟨b, off, e2, _⟩ := hA.2 (by omega)
    rw [e] at e2
    cases e2
  have m1 := fun W => mod_any i (n : Int) (by omega) (by omega) hi.1 hi.2 W
  have m2 := fun W => mod_any k (n : Int) (by omega) (by omega) hk.1 hk.2 W
  obtain ⟨a, ha⟩ : ∃ a : Nat, i % (n : Int) = (a : Int) := ⟨(i % (n : Int)).toNat, by have := Int.emod_nonneg i (show (n : Int) ≠ 0 by omega); omega⟩
  obtain ⟨b, hb⟩ : ∃ b : Nat, k % (n : Int) = (b : Int) := ⟨(k % (n : Int)).toNat, by have := Int.emod_nonneg k (show (n : Int) ≠ 0 by omega); omega⟩
  have han : a < n := by have := Int.emod_lt_of_pos i (show (0 : Int) < n by omega); omega
  have hbn : b < n := by have := Int.emod_lt_of_pos k (show (0 : Int) < n by omega); omega
  rw [ha] at m1
  rw [hb] at m2
  have HL := Lib.hid hA.1
  have HA := Lib.hid hA
  clear hA h2 hi hk h40 ha hb
  go_enter Try.func4, Try.ntmps4
  go_wp2
  go_loopw [7] (fun i wr => ∃ k : Nat, k ≤ n ∧ i = .int .i64 k ∧ Hid (Below w.heap.size w wr) ∧ Hid (ShD (l.take k))) (fun i _ => n - (intOf i).toNat)
  case atStart => exact ⟨0, Nat.zero_le _, rfl, Lib.hid (Below.refl _ _), Lib.hid (by intro d hd; simp at hd)⟩
  case round =>
    obtain ⟨k, hk, rfl, HW, HS⟩ := hrel
    have i0 : (0 : Int) ≤ (k : Int) := by omega
    by_cases hlt : k < n
    · have i1 : (k : Int) < (n : Int) := by omega
      have hkl : k < l.length := by rw [HL.out]; exact hlt
      obtain ⟨bb, off, rfl, hbb, g0, g1, _⟩ := (HA.out.below' HW.out (Nat.le_refl _)).at_ hlt
      have HK := Lib.hid (HS.out.next hkl)
      obtain ⟨q, hq⟩ : ∃ q, (decide (l[k].name.length ≤ 500) && decide (l[k].value.length ≤ 500)) = q := ⟨_, rfl⟩
      have cs := short_any 500 (some ⟨wr.heap.size, 0, none⟩) 2 2 [bs l[k].name, bs l[k].value] (wr.heap.size + 1) (wr.alloc (.cells #[.string (bs l[k].name), .string (bs l[k].value)] 9)).drew (Has.two wr (.string (bs l[k].name)) (.string (bs l[k].value)) 9) (by decide)
      rw [short_two5, hq] at cs
      have hbd2 : Below w.heap.size w (wr.alloc (.cells #[.string (bs l[k].name), .string (bs l[k].value)] 9)).drew := (HW.out.alloc HW.out.size _).drew
      have HQ := Lib.hid hq
      clear hq HS
      generalize l[k] = d at *
      generalize bs d.name = N at *
      generalize bs d.value = V at *
      clear hkl
      cases q with
      | false =>
        go_wp2
        go_region_held3 (fun W => W.cell? ⟨bb, off + k * 3, none⟩ = some (.string N) ∧ W.cell? ⟨bb, off + k * 3 + 1, none⟩ = some (.string V)) (go_keep)
          (first
            | (go_at_call 10; refine cs.mono ?_; rintro e w' ⟨rfl, rfl⟩))
        go_wp2_with fail
        refine (awake19_any _).mono ?_
        rintro e wz ⟨rfl, hz2⟩
        have hz := hbd2.trans (hz2.mono hbd2.size)
        go_wp2
        go_ret
        exact ⟨rfl, hz⟩
      | true =>
        have HN : Hid (ShD (l.take (k + 1))) := by
          have h := HQ.out
          rw [Bool.and_eq_true, decide_eq_true_eq, decide_eq_true_eq] at h
          exact Lib.hid (HK.out h)
        go_wp2
        go_region_held3 (fun W => W.cell? ⟨bb, off + k * 3, none⟩ = some (.string N) ∧ W.cell? ⟨bb, off + k * 3 + 1, none⟩ = some (.string V)) (go_keep)
          (first
            | (go_at_call 10; refine cs.mono ?_; rintro e w' ⟨rfl, rfl⟩))
        go_wp2
        go_roundw
        case rel => exact ⟨k + 1, by omega, by go_num, Lib.hid hbd2, HN⟩
        case measure => simp [intOf]; omega
    · have hkn : (k : Int) = (n : Int) := by omega
      have HSh : Hid (ShD l) := by
        have h := HS.out
        rw [List.take_of_length_le (by rw [HL.out]; omega)] at h
        exact h
      rw [hkn]
      clear hkn hlt i0 hk HS
      clear k
      have hA1 := HA.out.below' HW.out (Nat.le_refl _)
      have hbA : Below wr.heap.size wr (wr.alloc (.cells #[] 32)) := (Below.refl _ _).alloc (Nat.le_refl _) _
      have hA2 := hA1.below' hbA HW.out.size
      go_wp2_with (first
        | (at_builtin
           refine wpList_wanted (by exact rfl) ?_
           refine wpList_app_dvs _ rfl _ _ (by exact rfl) wr.heap.size _ 0 [] (by exact rfl) (own_dv0 wr) A n c w.heap.size l (by exact rfl) hAz hA2 (by omega) hbA (Nat.le_refl _) ?_
           intro v4 w4 hown4 hb4 _
           rw [Nat.zero_add, List.nil_append] at hown4
           obtain ⟨g, c4, rfl, hc4, hg4, hM4⟩ := MSt.of_own hown4 (by omega)
           have HM := Lib.hid hM4
           have HB := Lib.hid hb4
           clear hown4 hM4 hb4))
      refine (m1 _).mono ?_
      rintro e w5 ⟨rfl, rfl⟩
      go_wp2_with fail
      refine (m2 _).mono ?_
      rintro e w6 ⟨rfl, rfl⟩
      go_wp2
      -- REGION: written by gen-StO.py
      obtain ⟨dD, huD, hdD⟩ := tyDvD
      have hal : a < l.length := by rw [HL.out]; exact han
      have hbl : b < l.length := by rw [HL.out]; exact hbn
      have HP := Lib.hid (swap_perm hal hbl)
      have hMd : MSt w4.drew g n l := HM.out.drew
      have hra := hMd.range hal
      have hrb := hMd.range hbl
      have hta := hMd.there han
      have ia : (a : Int) < (n : Int) := by omega
      have ib : (b : Int) < (n : Int) := by omega
      have ja : (0 : Int) ≤ (a : Int) := by omega
      have jb : (0 : Int) ≤ (b : Int) := by omega
      have htb := World.there_setCells (hMd.there hbn) g (a * 3) [.string (bs l[b].name), .string (bs l[b].value), .bool l[b].has]
      have HM2 := Lib.hid ((hMd.set han l[b]).set hbn l[a])
      have HB2 := Lib.hid (below_set (g := g) (o := b * 3) (vs := [.string (bs l[a].name), .string (bs l[a].value), .bool l[a].has]) (below_set (g := g) (o := a * 3) (vs := [.string (bs l[b].name), .string (bs l[b].value), .bool l[b].has]) (below_drw HB.out) (Nat.le_refl _) hg4) (Nat.le_refl _) hg4)
      obtain ⟨m, hm⟩ : ∃ m, m = (l.set a l[b]).set b l[a] := ⟨_, rfl⟩
      rw [← hm] at HP HM2
      generalize l[a] = da at *
      generalize l[b] = db at *
      clear hal hbl hMd HM HB hm
      refine wp_region_held_drew (S := fun _ => True) (by kernel_rfl) trivial (fun _ => ?_)
      generalize hwd : w4.drew = wd at *
      refine wpAnyH_take (i := 0) (v := .slice (some ⟨g, 0, none⟩) n c4) rfl (by kernel_rfl) (by kernel_rfl) (by kernel_rfl) (fun _ _ _ h => h) (Or.inl ⟨by rfl, fun W hW => by go_simp; try (with_reducible rfl)⟩) trivial ?_
      try simp only [Act.put, List.getElem_toArray, List.getElem_cons_zero, List.setIfInBounds_toArray, List.set_cons_zero, List.set_cons_succ]
      refine wpAnyH_take (i := 1) (v := .int .i64 (a : Int)) rfl (by kernel_rfl) (by kernel_rfl) (by kernel_rfl) (fun _ _ _ h => h) (Or.inl ⟨by rfl, fun W hW => by go_simp; try (with_reducible rfl)⟩) trivial ?_
      try simp only [Act.put, List.getElem_toArray, List.getElem_cons_zero, List.getElem_cons_succ, List.setIfInBounds_toArray, List.set_cons_zero, List.set_cons_succ]
      refine wpAnyH_take (i := 2) (v := .slice (some ⟨g, 0, none⟩) n c4) rfl (by kernel_rfl) (by kernel_rfl) (by kernel_rfl) (fun _ _ _ h => h) (Or.inl ⟨by rfl, fun W hW => by go_simp; try (with_reducible rfl)⟩) trivial ?_
      try simp only [Act.put, List.getElem_toArray, List.getElem_cons_zero, List.getElem_cons_succ, List.setIfInBounds_toArray, List.set_cons_zero, List.set_cons_succ]
      refine wpAnyH_take (i := 3) (v := .int .i64 (b : Int)) rfl (by kernel_rfl) (by kernel_rfl) (by kernel_rfl) (fun _ _ _ h => h) (Or.inl ⟨by rfl, fun W hW => by go_simp; try (with_reducible rfl)⟩) trivial ?_
      try simp only [Act.put, List.getElem_toArray, List.getElem_cons_zero, List.getElem_cons_succ, List.setIfInBounds_toArray, List.set_cons_zero, List.set_cons_succ]
      refine wpAnyH_take (i := 4) (v := .slice (some ⟨g, 0, none⟩) n c4) rfl (by kernel_rfl) (by kernel_rfl) (by kernel_rfl) (fun _ _ _ h => h) (Or.inl ⟨by rfl, fun W hW => by go_simp; try (with_reducible rfl)⟩) trivial ?_
      try simp only [Act.put, List.getElem_toArray, List.getElem_cons_zero, List.getElem_cons_succ, List.setIfInBounds_toArray, List.set_cons_zero, List.set_cons_succ]
      refine wpAnyH_take (i := 5) (v := .int .i64 (b : Int)) rfl (by kernel_rfl) (by kernel_rfl) (by kernel_rfl) (fun _ _ _ h => h) (Or.inl ⟨by rfl, fun W hW => by go_simp; try (with_reducible rfl)⟩) trivial ?_
      try simp only [Act.put, List.getElem_toArray, List.getElem_cons_zero, List.getElem_cons_succ, List.setIfInBounds_toArray, List.set_cons_zero, List.set_cons_succ]
      refine wpAnyH_take (i := 6) (v := .pointer (some ⟨g, b * 3, none⟩)) rfl (by kernel_rfl) (by kernel_rfl) (by kernel_rfl) (fun _ _ _ h => h) (Or.inl ⟨by rfl, fun W hW => by go_simp; try (with_reducible rfl)⟩) trivial ?_
      try simp only [Act.put, List.getElem_toArray, List.getElem_cons_zero, List.getElem_cons_succ, List.setIfInBounds_toArray, List.set_cons_zero, List.set_cons_succ]
      refine wpAnyH_take (i := 8) (v := .slice (some ⟨g, 0, none⟩) n c4) rfl (by kernel_rfl) (by kernel_rfl) (by kernel_rfl) (fun _ _ _ h => h) (Or.inl ⟨by rfl, fun W hW => by go_simp; try (with_reducible rfl)⟩) trivial ?_
      try simp only [Act.put, List.getElem_toArray, List.getElem_cons_zero, List.getElem_cons_succ, List.setIfInBounds_toArray, List.set_cons_zero, List.set_cons_succ]
      refine wpAnyH_take (i := 9) (v := .int .i64 (a : Int)) rfl (by kernel_rfl) (by kernel_rfl) (by kernel_rfl) (fun _ _ _ h => h) (Or.inl ⟨by rfl, fun W hW => by go_simp; try (with_reducible rfl)⟩) trivial ?_
      try simp only [Act.put, List.getElem_toArray, List.getElem_cons_zero, List.getElem_cons_succ, List.setIfInBounds_toArray, List.set_cons_zero, List.set_cons_succ]
      refine wpAnyH_take (i := 10) (v := .pointer (some ⟨g, a * 3, none⟩)) rfl (by kernel_rfl) (by kernel_rfl) (by kernel_rfl) (fun _ _ _ h => h) (Or.inl ⟨by rfl, fun W hW => by go_simp; try (with_reducible rfl)⟩) trivial ?_
      try simp only [Act.put, List.getElem_toArray, List.getElem_cons_zero, List.getElem_cons_succ, List.setIfInBounds_toArray, List.set_cons_zero, List.set_cons_succ]
      refine wpAnyH_ready (rs := [7, 11]) (by kernel_rfl) (by simp) (AllReadyH.cons rfl (fun K hK => ?_) (AllReadyH.cons rfl (fun K hK => ?_) AllReadyH.nil))
      · refine wp_load_mid _ _ rfl g (b * 3) (by rfl) [.string (bs db.name), .string (bs db.value), .bool db.has] dD (hrb) huD hdD dvSize ?_
        refine hK.out _ _ trivial (fun _ => ?_)
        clear hK K
        try simp only [Act.put, List.getElem_toArray, List.getElem_cons_zero, List.getElem_cons_succ, List.setIfInBounds_toArray, List.set_cons_zero, List.set_cons_succ]
        refine wpAnyH_ready (rs := [11]) (by kernel_rfl) (by simp) (AllReadyH.cons rfl (fun K hK => ?_) AllReadyH.nil)
        refine wp_load_mid _ _ rfl g (a * 3) (by rfl) [.string (bs da.name), .string (bs da.value), .bool da.has] dD (hra) huD hdD dvSize ?_
        refine hK.out _ _ trivial (fun _ => ?_)
        clear hK K
        try simp only [Act.put, List.getElem_toArray, List.getElem_cons_zero, List.getElem_cons_succ, List.setIfInBounds_toArray, List.set_cons_zero, List.set_cons_succ]
        refine wpAnyH_take (i := 12) (v := .pointer (some ⟨g, a * 3, none⟩)) rfl (by kernel_rfl) (by kernel_rfl) (by kernel_rfl) (fun _ _ _ h => h) (Or.inl ⟨by rfl, fun W hW => by go_simp; try (with_reducible rfl)⟩) trivial ?_
        try simp only [Act.put, List.getElem_toArray, List.getElem_cons_zero, List.getElem_cons_succ, List.setIfInBounds_toArray, List.set_cons_zero, List.set_cons_succ]
        refine wpAnyH_ready (rs := [13]) (by kernel_rfl) (by simp) (AllReadyH.cons rfl (fun K hK => ?_) AllReadyH.nil)
        refine wp_store_mid _ _ _ rfl g (a * 3) #[.string (bs db.name), .string (bs db.value), .bool db.has] (by rfl) (by rfl) hta dvSize (dc_one _ _ _) ?_
        refine hK.out _ _ trivial (fun _ => ?_)
        clear hK K
        try simp only [Act.put, List.getElem_toArray, List.getElem_cons_zero, List.getElem_cons_succ]
        refine wpAnyH_take (i := 14) (v := .pointer (some ⟨g, b * 3, none⟩)) rfl (by kernel_rfl) (by kernel_rfl) (by kernel_rfl) (fun _ _ _ h => h) (Or.inl ⟨by rfl, fun W hW => by go_simp; try (with_reducible rfl)⟩) trivial ?_
        try simp only [Act.put, List.getElem_toArray, List.getElem_cons_zero, List.getElem_cons_succ, List.setIfInBounds_toArray, List.set_cons_zero, List.set_cons_succ]
        refine wpAnyH_ready (rs := [15]) (by kernel_rfl) (by simp) (AllReadyH.cons rfl (fun K hK => ?_) AllReadyH.nil)
        refine wp_store_mid _ _ _ rfl g (b * 3) #[.string (bs da.name), .string (bs da.value), .bool da.has] (by rfl) (by rfl) htb dvSize (dc_one _ _ _) ?_
        refine hK.out _ _ trivial (fun _ => ?_)
        clear hK K
        try simp only [Act.put, List.getElem_toArray, List.getElem_cons_zero, List.getElem_cons_succ]
        refine wpAnyH_done (by kernel_rfl) ?_ _
        have HB3 := Lib.hid (HW.out.trans (HB2.out.mono HW.out.size))
        generalize (wd.setCells g (a * 3) [.string (bs db.name), .string (bs db.value), .bool db.has]).setCells g (b * 3) [.string (bs da.name), .string (bs da.value), .bool da.has] = Wz at *
        have hSm := HSh.out.sm
        have hSm2 : SmDv m := fun d hd => hSm d (HP.out.mem_iff.1 hd)
        have cF1 := fmt_at (refFormat_any18 A n c w.heap.size l Wz (HA.out.below HB3.out) hSm (by omega) hnc HB3.out.size) (show fmtR l = ((fmtR l).1, (fmtR l).2) from rfl)
        have cF2 := fun W (hb : Below Wz.heap.size Wz W) => fmt_at (refFormat_any18 (some ⟨g, 0, none⟩) n c4 (g + 1) m W (HM2.out.has.below' hb HM2.out.lt) hSm2 (by omega) hc4 (Nat.le_trans HM2.out.lt hb.size)) (show fmtR m = ((fmtR m).1, (fmtR m).2) from rfl)
        have HF1 := Lib.hid (show fmtR l = ((fmtR l).1, (fmtR l).2) from rfl)
        have HF2 := Lib.hid (show fmtR m = ((fmtR m).1, (fmtR m).2) from rfl)
        have hl1 := fmt_len l
        have hl2 := fmt_len m
        generalize (fmtR l).1 = s1 at *
        generalize (fmtR l).2 = r1 at *
        generalize (fmtR m).1 = s2 at *
        generalize (fmtR m).2 = r2 at *
        clear hSm hSm2 HB2 HM2 hra hrb hta htb hA1 hA2 hbA m1 m2 hwd
        go_wp2_with fail
        refine cF1.mono ?_
        rintro e x1 ⟨rfl, hb1⟩
        have cF2 := cF2 x1 hb1
        have hb := HB3.out.trans (hb1.mono HB3.out.size)
        clear hb1 cF1
        go_wp2_with fail
        refine cF2.mono ?_
        rintro e x2 ⟨rfl, hb2⟩
        replace hb := hb.trans (hb2.mono hb.size)
        clear hb2 cF2
        by_cases h1 : r1 = 0
        · subst h1
          by_cases h2 : r2 = 0
          · subst h2
            have hsame := ord_same HF1.out HF2.out HP.out
            obtain ⟨⟨⟨pa, sb⟩, rr⟩, hR⟩ : ∃ R, stsP s2 = R := ⟨_, rfl⟩
            rw [hR] at hsame
            have y1 : (bs s1).size ≤ 1000000 := by rw [bs_size]; omega
            have y2 : (bs s2).size ≤ 1000000 := by rw [bs_size]; omega
            rw [← ls_bs s1] at hsame
            rw [← ls_bs s2] at hR
            have c1 := stsParse_known _ y1 hsame
            have c2 := stsParse_known _ y2 hR
            have heq : ∀ W, (binOp .eql 24 (.agg #[.int .i64 pa, .bool sb]) (.agg #[.int .i64 pa, .bool sb])).run Try.prog W = .ok (.bool true) W := fun W => by rw [eq_pv]; simp
            generalize bs s1 = T1 at *
            generalize bs s2 = T2 at *
            clear hsame hR y1 y2 hl1 hl2
            go_wp2_with fail
            refine (c1 _).mono ?_
            rintro e x3 ⟨rfl, hb1⟩
            replace hb := hb.trans (hb1.mono hb.size)
            clear hb1
            go_wp2_with (first
              | (refine wpList_alloc_arr _ rfl 15 rfl _ rfl #[.int .i64 0, .bool false] zeroPv ?_; intro Y1 v1 hv1 hy1 hR1 hG1)
              | (refine wpList_store_pv rfl rfl _ _ rfl v1 (by exact rfl) pa sb (by exact rfl) _ _ hR1 ?_; intro Y2 hr1 hG2))
            have hE1 := RSt19.boxed hb hv1 hG1 hr1 hG2
            clear hb hv1 hy1 hR1 hG1 hr1 hG2
            refine (c2 _).mono ?_
            rintro e x4 ⟨rfl, hb1⟩
            have hE1 := hE1.call hb1
            clear hb1
            go_wp2_with (first
              | (refine wpList_alloc_arr _ rfl 17 rfl _ rfl #[.int .i64 0, .bool false] zeroPv ?_; intro Y3 v2 hv2 hy2 hR2 hG3)
              | (refine wpList_store_pv rfl rfl _ _ rfl v2 (by exact rfl) pa sb (by exact rfl) _ _ hR2 ?_
                 intro Y4 hr2 hG4
                 have hE7 := hE1.pass hv2 hG3 hG4)
              | (refine wpList_load_pv (by rfl) _ rfl v1 (by exact rfl) _ _ hE7.row ?_)
              | (refine wpList_load_pv (by rfl) _ rfl v2 (by exact rfl) _ _ hr2 ?_))
            have hb := hE7.bel
            clear hE7 hr2 hG3 hG4 hR2 hE1
            refine (awake19_any _).mono ?_
            rintro e wz ⟨rfl, hz2⟩
            have hz := hb.trans (hz2.mono hb.size)
            go_wp2
            go_ret
            exact ⟨rfl, hz⟩
          · have e1 : (r2 == 0) = false := by simp [h2]
            have e2 : (r2 != 0) = true := by simp [h2]
            go_wp2_with fail
            refine (awake19_any _).mono ?_
            rintro e wz ⟨rfl, hz2⟩
            have hz := hb.trans (hz2.mono hb.size)
            go_wp2
            go_ret
            exact ⟨rfl, hz⟩
        · have e1 : (r1 == 0) = false := by simp [h1]
          have e2 : (r1 != 0) = true := by simp [h1]
          go_wp2_with fail
          refine (awake19_any _).mono ?_
          rintro e wz ⟨rfl, hz2⟩
          have hz := hb.trans (hz2.mono hb.size)
          go_wp2
          go_ret
          exact ⟨rfl, hz⟩
      · refine wp_load_mid _ _ rfl g (a * 3) (by rfl) [.string (bs da.name), .string (bs da.value), .bool da.has] dD (hra) huD hdD dvSize ?_
        refine hK.out _ _ trivial (fun _ => ?_)
        clear hK K
        try simp only [Act.put, List.getElem_toArray, List.getElem_cons_zero, List.getElem_cons_succ, List.setIfInBounds_toArray, List.set_cons_zero, List.set_cons_succ]
        refine wpAnyH_ready (rs := [7]) (by kernel_rfl) (by simp) (AllReadyH.cons rfl (fun K hK => ?_) AllReadyH.nil)
        refine wp_load_mid _ _ rfl g (b * 3) (by rfl) [.string (bs db.name), .string (bs db.value), .bool db.has] dD (hrb) huD hdD dvSize ?_
        refine hK.out _ _ trivial (fun _ => ?_)
        clear hK K
        try simp only [Act.put, List.getElem_toArray, List.getElem_cons_zero, List.getElem_cons_succ, List.setIfInBounds_toArray, List.set_cons_zero, List.set_cons_succ]
        refine wpAnyH_take (i := 12) (v := .pointer (some ⟨g, a * 3, none⟩)) rfl (by kernel_rfl) (by kernel_rfl) (by kernel_rfl) (fun _ _ _ h => h) (Or.inl ⟨by rfl, fun W hW => by go_simp; try (with_reducible rfl)⟩) trivial ?_
        try simp only [Act.put, List.getElem_toArray, List.getElem_cons_zero, List.getElem_cons_succ, List.setIfInBounds_toArray, List.set_cons_zero, List.set_cons_succ]
        refine wpAnyH_ready (rs := [13]) (by kernel_rfl) (by simp) (AllReadyH.cons rfl (fun K hK => ?_) AllReadyH.nil)
        refine wp_store_mid _ _ _ rfl g (a * 3) #[.string (bs db.name), .string (bs db.value), .bool db.has] (by rfl) (by rfl) hta dvSize (dc_one _ _ _) ?_
        refine hK.out _ _ trivial (fun _ => ?_)
        clear hK K
        try simp only [Act.put, List.getElem_toArray, List.getElem_cons_zero, List.getElem_cons_succ]
        refine wpAnyH_take (i := 14) (v := .pointer (some ⟨g, b * 3, none⟩)) rfl (by kernel_rfl) (by kernel_rfl) (by kernel_rfl) (fun _ _ _ h => h) (Or.inl ⟨by rfl, fun W hW => by go_simp; try (with_reducible rfl)⟩) trivial ?_
        try simp only [Act.put, List.getElem_toArray, List.getElem_cons_zero, List.getElem_cons_succ, List.setIfInBounds_toArray, List.set_cons_zero, List.set_cons_succ]
        refine wpAnyH_ready (rs := [15]) (by kernel_rfl) (by simp) (AllReadyH.cons rfl (fun K hK => ?_) AllReadyH.nil)
        refine wp_store_mid _ _ _ rfl g (b * 3) #[.string (bs da.name), .string (bs da.value), .bool da.has] (by rfl) (by rfl) htb dvSize (dc_one _ _ _) ?_
        refine hK.out _ _ trivial (fun _ => ?_)
        clear hK K
        try simp only [Act.put, List.getElem_toArray, List.getElem_cons_zero, List.getElem_cons_succ]
        refine wpAnyH_done (by kernel_rfl) ?_ _
        have HB3 := Lib.hid (HW.out.trans (HB2.out.mono HW.out.size))
        generalize (wd.setCells g (a * 3) [.string (bs db.name), .string (bs db.value), .bool db.has]).setCells g (b * 3) [.string (bs da.name), .string (bs da.value), .bool da.has] = Wz at *
        have hSm := HSh.out.sm
        have hSm2 : SmDv m := fun d hd => hSm d (HP.out.mem_iff.1 hd)
        have cF1 := fmt_at (refFormat_any18 A n c w.heap.size l Wz (HA.out.below HB3.out) hSm (by omega) hnc HB3.out.size) (show fmtR l = ((fmtR l).1, (fmtR l).2) from rfl)
        have cF2 := fun W (hb : Below Wz.heap.size Wz W) => fmt_at (refFormat_any18 (some ⟨g, 0, none⟩) n c4 (g + 1) m W (HM2.out.has.below' hb HM2.out.lt) hSm2 (by omega) hc4 (Nat.le_trans HM2.out.lt hb.size)) (show fmtR m = ((fmtR m).1, (fmtR m).2) from rfl)
        have HF1 := Lib.hid (show fmtR l = ((fmtR l).1, (fmtR l).2) from rfl)
        have HF2 := Lib.hid (show fmtR m = ((fmtR m).1, (fmtR m).2) from rfl)
        have hl1 := fmt_len l
        have hl2 := fmt_len m
        generalize (fmtR l).1 = s1 at *
        generalize (fmtR l).2 = r1 at *
        generalize (fmtR m).1 = s2 at *
        generalize (fmtR m).2 = r2 at *
        clear hSm hSm2 HB2 HM2 hra hrb hta htb hA1 hA2 hbA m1 m2 hwd
        go_wp2_with fail
        refine cF1.mono ?_
        rintro e x1 ⟨rfl, hb1⟩
        have cF2 := cF2 x1 hb1
        have hb := HB3.out.trans (hb1.mono HB3.out.size)
        clear hb1 cF1
        go_wp2_with fail
        refine cF2.mono ?_
        rintro e x2 ⟨rfl, hb2⟩
        replace hb := hb.trans (hb2.mono hb.size)
        clear hb2 cF2
        by_cases h1 : r1 = 0
        · subst h1
          by_cases h2 : r2 = 0
          · subst h2
            have hsame := ord_same HF1.out HF2.out HP.out
            obtain ⟨⟨⟨pa, sb⟩, rr⟩, hR⟩ : ∃ R, stsP s2 = R := ⟨_, rfl⟩
            rw [hR] at hsame
            have y1 : (bs s1).size ≤ 1000000 := by rw [bs_size]; omega
            have y2 : (bs s2).size ≤ 1000000 := by rw [bs_size]; omega
            rw [← ls_bs s1] at hsame
            rw [← ls_bs s2] at hR
            have c1 := stsParse_known _ y1 hsame
            have c2 := stsParse_known _ y2 hR
            have heq : ∀ W, (binOp .eql 24 (.agg #[.int .i64 pa, .bool sb]) (.agg #[.int .i64 pa, .bool sb])).run Try.prog W = .ok (.bool true) W := fun W => by rw [eq_pv]; simp
            generalize bs s1 = T1 at *
            generalize bs s2 = T2 at *
            clear hsame hR y1 y2 hl1 hl2
            go_wp2_with fail
            refine (c1 _).mono ?_
            rintro e x3 ⟨rfl, hb1⟩
            replace hb := hb.trans (hb1.mono hb.size)
            clear hb1
            go_wp2_with (first
              | (refine wpList_alloc_arr _ rfl 15 rfl _ rfl #[.int .i64 0, .bool false] zeroPv ?_; intro Y1 v1 hv1 hy1 hR1 hG1)
              | (refine wpList_store_pv rfl rfl _ _ rfl v1 (by exact rfl) pa sb (by exact rfl) _ _ hR1 ?_; intro Y2 hr1 hG2))
            have hE1 := RSt19.boxed hb hv1 hG1 hr1 hG2
            clear hb hv1 hy1 hR1 hG1 hr1 hG2
            refine (c2 _).mono ?_
            rintro e x4 ⟨rfl, hb1⟩
            have hE1 := hE1.call hb1
            clear hb1
            go_wp2_with (first
              | (refine wpList_alloc_arr _ rfl 17 rfl _ rfl #[.int .i64 0, .bool false] zeroPv ?_; intro Y3 v2 hv2 hy2 hR2 hG3)
              | (refine wpList_store_pv rfl rfl _ _ rfl v2 (by exact rfl) pa sb (by exact rfl) _ _ hR2 ?_
                 intro Y4 hr2 hG4
                 have hE7 := hE1.pass hv2 hG3 hG4)
              | (refine wpList_load_pv (by rfl) _ rfl v1 (by exact rfl) _ _ hE7.row ?_)
              | (refine wpList_load_pv (by rfl) _ rfl v2 (by exact rfl) _ _ hr2 ?_))
            have hb := hE7.bel
            clear hE7 hr2 hG3 hG4 hR2 hE1
            refine (awake19_any _).mono ?_
            rintro e wz ⟨rfl, hz2⟩
            have hz := hb.trans (hz2.mono hb.size)
            go_wp2
            go_ret
            exact ⟨rfl, hz⟩
          · have e1 : (r2 == 0) = false := by simp [h2]
            have e2 : (r2 != 0) = true := by simp [h2]
            go_wp2_with fail
            refine (awake19_any _).mono ?_
            rintro e wz ⟨rfl, hz2⟩
            have hz := hb.trans (hz2.mono hb.size)
            go_wp2
            go_ret
            exact ⟨rfl, hz⟩
        · have e1 : (r1 == 0) = false := by simp [h1]
          have e2 : (r1 != 0) = true := by simp [h1]
          go_wp2_with fail
          refine (awake19_any _).mono ?_
          rintro e wz ⟨rfl, hz2⟩
          have hz := hb.trans (hz2.mono hb.size)
          go_wp2
          go_ret
          exact ⟨rfl, hz⟩

end Go.Proofs.Ytpopkeidpohdiaa
