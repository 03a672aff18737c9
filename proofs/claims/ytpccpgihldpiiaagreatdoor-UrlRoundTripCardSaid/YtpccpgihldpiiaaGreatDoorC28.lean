/-
parsePort: the port of a text of digits, or the default.
copyOf: a URL whose parts are copies.
-/
import Derived.Test.YtpccpgihldpiiaaGreatDoorC26
import Derived.Test.YtpccpgihldpiiaaGreatDoorShelfP
import Derived.Test.YtpccpgihldpiiaaGreatDoorC24
import Derived.Test.YtpccpgihldpiiaaGreatDoorC19
namespace Go.Proofs.YtpccpgihldpiiaaGreatDoor
section
open Go.RowKit Go.Shelf

theorem valB_ge10 : ∀ (l : List UInt8) (a : Nat), a ≤ valB 10 a l
  | [], a => Nat.le_refl _
  | c :: r, a => by
    have := valB_ge10 r (a * 10 + digV c)
    show a ≤ valB 10 (a * 10 + digV c) r
    omega
theorem dig_iff (c : UInt8) : digitU c = true ↔ 48 ≤ c.toNat ∧ c.toNat ≤ 57 := by
  unfold digitU digitB
  simp only [Bool.and_eq_true, decide_eq_true_eq]
  omega
theorem digV_dec {c : UInt8} (h : 48 ≤ c.toNat ∧ c.toNat ≤ 57) : digV c = c.toNat - 48 := by unfold digV; rw [if_pos h]
/-- A text that is no number. -/
def synE9 : Lib.NumEnd Nat := Lib.parseUintB 16 []
theorem puM_cases : ∀ (l : List UInt8) (acc : Nat), acc ≤ 65535 →
    (l.all digitU = true ∧ valB 10 acc l ≤ 65535 ∧ Lib.parseUintM 65535 acc l = .ok (valB 10 acc l)) ∨ ((l.all digitU = true → 65535 < valB 10 acc l) ∧ (Lib.parseUintM 65535 acc l = synE9 ∨ Lib.parseUintM 65535 acc l = .range))
  | [], acc, h => .inl ⟨rfl, h, rfl⟩
  | c :: r, acc, h => by
    unfold Lib.parseUintM
    by_cases hc : 48 ≤ c.toNat ∧ c.toNat ≤ 57
    · rw [if_pos hc, if_neg (by omega)]
      have e : valB 10 acc (c :: r) = valB 10 (acc * 10 + (c.toNat - 48)) r := by rw [← digV_dec hc]; rfl
      have ea : (c :: r).all digitU = r.all digitU := by rw [List.all_cons, (dig_iff c).2 hc, Bool.true_and]
      rw [e, ea]
      by_cases h2 : 65535 < acc * 10 + (c.toNat - 48)
      · rw [if_pos h2]
        right
        refine ⟨fun _ => ?_, .inr rfl⟩
        have := valB_ge10 r (acc * 10 + (c.toNat - 48))
        omega
      · rw [if_neg h2]
        exact puM_cases r _ (by omega)
    · rw [if_neg hc]
      right
      refine ⟨fun h3 => ?_, .inl rfl⟩
      rw [List.all_cons, Bool.and_eq_true] at h3
      exact absurd ((dig_iff c).1 h3.1) hc

/-- The variable of the error of a number out of range holds an error. -/
def RngE (w : World) : Prop := ∃ te pe, w.cell? ⟨4, 0, none⟩ = some (.iface te pe)
theorem rng_below {w w' : World} (h : RngE w) (hb : Below w.heap.size w w') : RngE w' := by
  obtain ⟨te, pe, hc⟩ := h
  refine ⟨te, pe, (hb.cell ?_).trans hc⟩
  unfold World.cell? at hc
  cases ho : w.heap[(4 : Nat)]? with
  | none => simp [ho] at hc
  | some o => exact (Array.getElem?_eq_some_iff.1 ho).1

/-- What strconv.ParseUint answers of a port. -/
def PuPPost (T : ByteArray) (w : World) (e : Ending) (w' : World) : Prop :=
  ((ls T).all digitU = true ∧ valB 10 0 (ls T) ≤ 65535 ∧ e = .returned (.tuple #[.int .u64 ((valB 10 0 (ls T) : Nat) : Int), .nilIface]) ∨
    ((ls T).all digitU = true → 65535 < valB 10 0 (ls T)) ∧ ∃ (v : Int) (N : Nat), e = .returned (.tuple #[.int .u64 v, .iface 159 (.pointer (some ⟨N, 0, none⟩))])) ∧ Below w.heap.size w w'

theorem puP_any (T : ByteArray) (hT : T.size ≤ 1000000000) (hne : ls T ≠ []) (w : World) (hS : SynE w) (hR : RngE w) : Calls Tryz.prog 118 #[.string T, .int .i64 10, .int .i64 16] w (PuPPost T w) := by
  have hu : Lib.parseUintB 16 T.data.toList = Lib.parseUintM 65535 0 (ls T) := by
    unfold Lib.parseUintB
    rw [if_neg (show ¬ T.data.toList = [] from hne)]
    rfl
  rcases puM_cases (ls T) 0 (by omega) with ⟨h1, h2, h3⟩ | ⟨h1, h2⟩
  · refine (Any.strconv_ParseUint_10_at16_ok Tryz.laysPu14 T (by omega) _ (hu.trans h3) w).mono ?_
    rintro e w' ⟨rfl, hw⟩
    refine ⟨.inl ⟨h1, h2, rfl⟩, ?_⟩
    rcases hw with rfl | rfl
    · exact Below.refl _ _
    · exact Lib.bytesWorld_below _ _ _
  · rcases h2 with h2 | h2
    · obtain ⟨te, pe, hc⟩ := hS
      refine (Any.strconv_ParseUint_10_at16_syntax Tryz.laysPu14 T (by omega) (hu.trans h2) (.iface te pe) w hc (.inr ⟨te, pe, rfl⟩)).mono ?_
      rintro e w' ⟨N, rfl, _, _, hb⟩
      exact ⟨.inr ⟨h1, _, N, rfl⟩, hb⟩
    · obtain ⟨te, pe, hc⟩ := hR
      refine (Any.strconv_ParseUint_10_at16_range Tryz.laysPu14 T (by omega) (hu.trans h2) (.iface te pe) w hc (.inr ⟨te, pe, rfl⟩)).mono ?_
      rintro e w' ⟨N, rfl, _, _, hb⟩
      exact ⟨.inr ⟨h1, _, N, rfl⟩, hb⟩

/-- What parsePort answers. -/
def PoPost (T : ByteArray) (std : Int) (w : World) (e : Ending) (w' : World) : Prop :=
  (∃ p : Int, ∃ ok : Bool, e = .returned (.tuple #[.int .i64 p, .bool ok]) ∧ portP (ls T) std = (if ok = true then some p else none)) ∧ Below w.heap.size w w'
theorem port_any (T : ByteArray) (std : Int) (hT : T.size ≤ 1000000000) (w : World) (hS : SynE w) (hR : RngE w) : Calls Tryz.prog 150 #[.string T, .int .i64 std] w (PoPost T std w) := by
  by_cases hne : ls T = []
  · have HP : Hid (portP (ls T) std = some (-1)) := Lib.hid (by unfold portP; rw [if_pos hne])
    have he : T.toList.isEmpty = true := by rw [Lib.toList_data]; show (ls T).isEmpty = true; rw [hne]; rfl
    clear hne
    go_enter Tryz.func150, Tryz.ntmps150
    go_wp2
    go_ret2
    exact ⟨⟨_, true, rfl, HP.out⟩, Below.refl _ _⟩
  · have he : T.toList.isEmpty = false := by
      rw [Lib.toList_data]
      show (ls T).isEmpty = false
      cases h : ls T with
      | nil => exact absurd h hne
      | cons _ _ => rfl
    have c1 := puP_any T hT hne w hS hR
    have hP0 : portP (ls T) std = if (ls T).all digitU = true then (if 65535 < valB 10 0 (ls T) then none else if (valB 10 0 (ls T) : Int) = std then some (-1) else some (valB 10 0 (ls T) : Int)) else none := by
      unfold portP
      rw [if_neg hne]
    unfold PuPPost at c1
    have HP0 := Lib.hid hP0
    clear hP0 hne hS hR
    by_cases hs : ((valB 10 0 (ls T) : Nat) : Int) = std
    · have HS := Lib.hid hs
      have hsb : (((valB 10 0 (ls T) : Nat) : Int) == std) = true := by rw [hs]; simp
      clear hs
      go_enter Tryz.func150, Tryz.ntmps150
      go_wp2_with (go_at_call 118; refine c1.mono ?_; rintro e w1 ⟨⟨h1, h2, rfl⟩ | ⟨h1, v, N, rfl⟩, hb⟩)
      · go_ret2
        exact ⟨⟨_, true, rfl, by rw [HP0.out, if_pos h1, if_neg (by omega), if_pos HS.out]; rfl⟩, hb⟩
      · go_ret2
        refine ⟨⟨_, false, rfl, ?_⟩, hb⟩
        rw [HP0.out]
        by_cases h3 : (ls T).all digitU = true
        · rw [if_pos h3, if_pos (h1 h3)]; rfl
        · rw [if_neg h3]; rfl
    · have HS := Lib.hid hs
      have hsb : (((valB 10 0 (ls T) : Nat) : Int) == std) = false := by rw [beq_eq_false_iff_ne]; exact hs
      clear hs
      go_enter Tryz.func150, Tryz.ntmps150
      go_wp2_with (go_at_call 118; refine c1.mono ?_; rintro e w1 ⟨⟨h1, h2, rfl⟩ | ⟨h1, v, N, rfl⟩, hb⟩)
      · go_ret2
        exact ⟨⟨_, true, rfl, by rw [HP0.out, if_pos h1, if_neg (by omega), if_neg HS.out]; rfl⟩, hb⟩
      · go_ret2
        refine ⟨⟨_, false, rfl, ?_⟩, hb⟩
        rw [HP0.out]
        by_cases h3 : (ls T).all digitU = true
        · rw [if_pos h3, if_pos (h1 h3)]; rfl
        · rw [if_neg h3]; rfl
end

section
open Go.RowKit Go.Shelf

theorem zeroUrl (w : World) : (zeroValue 47).run Tryz.prog w = .ok (.agg uz) w := (zero_of_info (P := Tryz.prog) (t := 47) (v := .agg uz) (n := 15) (by kernel_rfl)).1 w

theorem Row.frozen9 {w : World} {g : Nat} {t : TypeId} {c : Array Value} (h : Row w g t c) (k : Nat) : w.frozen? ⟨g, k, none⟩ = false := by
  have := h
  unfold Row at this
  simp [World.frozen?, this]
theorem Row.set_same9 {w : World} {g : Nat} {t : TypeId} {c : Array Value} {k : Nat} {v : Value} (h : Row w g t c) (hv : c[k]? = some v) : Row (w.setCell ⟨g, k, none⟩ v) g t c := by
  rw [setCell_eq_setRow w g k c t (0, 0) v h, set_same hv]
  exact setRow_heap w g c c t _ h
theorem Row.set_other9 {w : World} {g b k : Nat} {t : TypeId} {c : Array Value} {v : Value} (h : Row w g t c) (hne : g ≠ b) : Row (w.setCell ⟨b, k, none⟩ v) g t c :=
  (Below.heap_setCell w ⟨b, k, none⟩ v g hne).trans h

/-- The variable of the copy, the result's variable. -/
structure CpSt (w0 W : World) (g1 g2 : Nat) (C : Array Value) : Prop where
  r1 : RowU W g1 C
  r2 : RowU W g2 uz
  bel : Below w0.heap.size w0 W
  ne : g2 ≠ g1
  le1 : w0.heap.size ≤ g1
  le2 : w0.heap.size ≤ g2
theorem CpSt.below {w0 W W' : World} {g1 g2 : Nat} {C : Array Value} (h : CpSt w0 W g1 g2 C) (hb : Below W.heap.size W W') : CpSt w0 W' g1 g2 C :=
  ⟨Row.below h.r1 hb (Row.lt h.r1), Row.below h.r2 hb (Row.lt h.r2), h.bel.trans (hb.mono h.bel.size), h.ne, h.le1, h.le2⟩
theorem CpSt.set {w0 W : World} {g1 g2 : Nat} {C : Array Value} {k : Nat} {v : Value} (h : CpSt w0 W g1 g2 C) (hv : C[k]? = some v) : CpSt w0 (W.setCell ⟨g1, k, none⟩ v) g1 g2 C :=
  ⟨Row.set_same9 h.r1 hv, Row.set_other9 h.r2 h.ne, h.bel.setCell (p := ⟨g1, k, none⟩) h.le1 _, h.ne, h.le1, h.le2⟩

set_option maxHeartbeats 1000000 in
theorem copy_cells {C : Array Value} {S U N : ByteArray} {H : Array Value} {p : Int} {R : ByteArray} (hC : UC C S U N H p R) (hS : S.size ≤ 1000000000) (hU : U.size ≤ 1000000000) (hN : N.size ≤ 1000000000) (hR : R.size ≤ 1000000000) (w : World) :
    Calls Tryz.prog 72 #[.agg C] w fun e w' => e = .returned (.agg C) ∧ Below w.heap.size w w' := by
  go_enter Tryz.func72, Tryz.ntmps72
  go_wp2_with (first
    | (refine wpList_box_arr _ rfl 1 rfl _ _ rfl _ C (by exact rfl) (by exact rfl) ?_; intro W1 g1 hg1 hl1 hR1 hG1; have hbw := below_row0 (Below.refl w.heap.size w) hG1 (Nat.le_refl _))
    | (refine wpList_alloc_arr _ rfl 2 rfl _ rfl uz zeroUrl ?_
       intro W2 g2 hg2 hl2 hR2 hG2
       have hSt : CpSt w W2 g1 g2 C := ⟨hR1.grown0 hG2, hR2, below_row0 hbw hG2 (Nat.le_refl _), by omega, hg1, by have := hbw.size; omega⟩
       obtain ⟨e0, e1, e3, e13, e14⟩ := hC.cell hSt.r1)
    | (go_at_call 62
       refine (cl_any _ _ (by assumption)).mono ?_
       rintro e w5 ⟨rfl, hb5⟩
       first | replace hSt := hSt.below hb5 | replace hSt := (hSt.set hC.c0).below hb5 | replace hSt := (hSt.set hC.c1).below hb5 | replace hSt := (hSt.set hC.c3).below hb5
       clear hb5
       obtain ⟨e0, e1, e3, e13, e14⟩ := hC.cell hSt.r1
       have f0 := hSt.r1.frozen9 0
       have f1 := hSt.r1.frozen9 1
       have f3 := hSt.r1.frozen9 3
       have f14 := hSt.r1.frozen9 14)
    | refine wpList_load_url rfl _ rfl g1 (by exact rfl) C (hSt.set hC.c14).r1 hC.sz ?_
    | (refine wpList_store_url rfl rfl _ _ rfl g2 (by exact rfl) C (by exact rfl) uz (hSt.set hC.c14).r2 rfl hC.sz hC.one ?_
       intro w7 hR7 hG7
       have hb7 := below_row (hSt.set hC.c14).bel hG7 (Nat.le_refl _) hSt.le2))
  exact ret_url1 2 rfl g2 rfl C hR7 hC.sz rfl ⟨rfl, hb7⟩
end

end Go.Proofs.YtpccpgihldpiiaaGreatDoor
