/-
parsePort: the port of a text of digits, or the default.
copyOf: a URL whose parts are copies.
textOf: the text of a URL.
parseSpecial: a URL of a special scheme, behind its colon.
-/
import Derived.Test.YtdfacgncphmcoaaGreatDoorC22
import Derived.Test.YtdfacgncphmcoaaGreatDoorShelfP
import Derived.Test.YtdfacgncphmcoaaGreatDoorC20
import Derived.Test.YtdfacgncphmcoaaGreatDoorC15
import Derived.Test.YtdfacgncphmcoaaGreatDoorShelf
import Derived.Lib.ItoaLen
namespace Go.Proofs.YtdfacgncphmcoaaGreatDoor
section
open Go.RowKit Go.Shelf
theorem valB_ge10 : ∀ (l : List UInt8) (a : Nat), a ≤ valB 10 a l
  | [], a => Nat.le_refl _
  | c :: r, a => by
    have := valB_ge10 r (a * 10 + digV c)
    show a ≤ valB 10 (a * 10 + digV c) r
    omega
theorem dig_iff (c : UInt8) : digitU c = true ↔ 48 ≤ c.toNat ∧ c.toNat ≤ 57 := by
  unfold digitU digitB
  simp only [Bool.and_eq_true, decide_eq_true_eq]
  omega
theorem digV_dec {c : UInt8} (h : 48 ≤ c.toNat ∧ c.toNat ≤ 57) : digV c = c.toNat - 48 := by unfold digV; rw [if_pos h]
/-- A text that is no number. -/
def synE9 : Lib.NumEnd Nat := Lib.parseUintB 16 []
theorem puM_cases : ∀ (l : List UInt8) (acc : Nat), acc ≤ 65535 →
    (l.all digitU = true ∧ valB 10 acc l ≤ 65535 ∧ Lib.parseUintM 65535 acc l = .ok (valB 10 acc l)) ∨ ((l.all digitU = true → 65535 < valB 10 acc l) ∧ (Lib.parseUintM 65535 acc l = synE9 ∨ Lib.parseUintM 65535 acc l = .range))
  | [], acc, h => .inl ⟨rfl, h, rfl⟩
  | c :: r, acc, h => by
    unfold Lib.parseUintM
    by_cases hc : 48 ≤ c.toNat ∧ c.toNat ≤ 57
    · rw [if_pos hc, if_neg (by omega)]
      have e : valB 10 acc (c :: r) = valB 10 (acc * 10 + (c.toNat - 48)) r := by rw [← digV_dec hc]; rfl
      have ea : (c :: r).all digitU = r.all digitU := by rw [List.all_cons, (dig_iff c).2 hc, Bool.true_and]
      rw [e, ea]
      by_cases h2 : 65535 < acc * 10 + (c.toNat - 48)
      · rw [if_pos h2]
        right
        refine ⟨fun _ => ?_, .inr rfl⟩
        have := valB_ge10 r (acc * 10 + (c.toNat - 48))
        omega
      · rw [if_neg h2]
        exact puM_cases r _ (by omega)
    · rw [if_neg hc]
      right
      refine ⟨fun h3 => ?_, .inl rfl⟩
      rw [List.all_cons, Bool.and_eq_true] at h3
      exact absurd ((dig_iff c).1 h3.1) hc
/-- The variable of the error of a number out of range holds an error. -/
def RngE (w : World) : Prop := ∃ te pe, w.cell? ⟨5, 0, none⟩ = some (.iface te pe)
theorem rng_below {w w' : World} (h : RngE w) (hb : Below w.heap.size w w') : RngE w' := by
  obtain ⟨te, pe, hc⟩ := h
  refine ⟨te, pe, (hb.cell ?_).trans hc⟩
  unfold World.cell? at hc
  cases ho : w.heap[(5 : Nat)]? with
  | none => simp [ho] at hc
  | some o => exact (Array.getElem?_eq_some_iff.1 ho).1
/-- What strconv.ParseUint answers of a port. -/
def PuPPost (T : ByteArray) (w : World) (e : Ending) (w' : World) : Prop :=
  ((ls T).all digitU = true ∧ valB 10 0 (ls T) ≤ 65535 ∧ e = .returned (.tuple #[.int .u64 ((valB 10 0 (ls T) : Nat) : Int), .nilIface]) ∨
    ((ls T).all digitU = true → 65535 < valB 10 0 (ls T)) ∧ ∃ (v : Int) (N : Nat), e = .returned (.tuple #[.int .u64 v, .iface 153 (.pointer (some ⟨N, 0, none⟩))])) ∧ Below w.heap.size w w'
theorem puP_any (T : ByteArray) (hT : T.size ≤ 1000000000) (hne : ls T ≠ []) (w : World) (hS : SynE w) (hR : RngE w) : Calls Tryz.prog 114 #[.string T, .int .i64 10, .int .i64 16] w (PuPPost T w) := by
  have hu : Lib.parseUintB 16 T.data.toList = Lib.parseUintM 65535 0 (ls T) := by
    unfold Lib.parseUintB
    rw [if_neg (show ¬ T.data.toList = [] from hne)]
    rfl
  rcases puM_cases (ls T) 0 (by omega) with ⟨h1, h2, h3⟩ | ⟨h1, h2⟩
  · refine (Any.strconv_ParseUint_10_at16_ok Tryz.laysPu14 T (by omega) _ (hu.trans h3) w).mono ?_
    rintro e w' ⟨rfl, hw⟩
    refine ⟨.inl ⟨h1, h2, rfl⟩, ?_⟩
    rcases hw with rfl | rfl
    · exact Below.refl _ _
    · exact Lib.bytesWorld_below _ _ _
  · rcases h2 with h2 | h2
    · obtain ⟨te, pe, hc⟩ := hS
      refine (Any.strconv_ParseUint_10_at16_syntax Tryz.laysPu14 T (by omega) (hu.trans h2) (.iface te pe) w hc (.inr ⟨te, pe, rfl⟩)).mono ?_
      rintro e w' ⟨N, rfl, _, _, hb⟩
      exact ⟨.inr ⟨h1, _, N, rfl⟩, hb⟩
    · obtain ⟨te, pe, hc⟩ := hR
      refine (Any.strconv_ParseUint_10_at16_range Tryz.laysPu14 T (by omega) (hu.trans h2) (.iface te pe) w hc (.inr ⟨te, pe, rfl⟩)).mono ?_
      rintro e w' ⟨N, rfl, _, _, hb⟩
      exact ⟨.inr ⟨h1, _, N, rfl⟩, hb⟩
/-- What parsePort answers. -/
def PoPost (T : ByteArray) (std : Int) (w : World) (e : Ending) (w' : World) : Prop :=
  (∃ p : Int, ∃ ok : Bool, e = .returned (.tuple #[.int .i64 p, .bool ok]) ∧ portP (ls T) std = (if ok = true then some p else none)) ∧ Below w.heap.size w w'
theorem port_any (T : ByteArray) (std : Int) (hT : T.size ≤ 1000000000) (w : World) (hS : SynE w) (hR : RngE w) : Calls Tryz.prog 87 #[.string T, .int .i64 std] w (PoPost T std w) := by
  by_cases hne : ls T = []
  · have HP : Hid (portP (ls T) std = some (-1)) := Lib.hid (by unfold portP; rw [if_pos hne])
    have he : T.toList.isEmpty = true := by rw [Lib.toList_data]; show (ls T).isEmpty = true; rw [hne]; rfl
    clear hne
    go_enter Tryz.func87, Tryz.ntmps87
    go_wp2
    go_ret2
    exact ⟨⟨_, true, rfl, HP.out⟩, Below.refl _ _⟩
  · have he : T.toList.isEmpty = false := by
      rw [Lib.toList_data]
      show (ls T).isEmpty = false
      cases h : ls T with
      | nil => exact absurd h hne
      | cons _ _ => rfl
    have c1 := puP_any T hT hne w hS hR
    have hP0 : portP (ls T) std = if (ls T).all digitU = true then (if 65535 < valB 10 0 (ls T) then none else if (valB 10 0 (ls T) : Int) = std then some (-1) else some (valB 10 0 (ls T) : Int)) else none := by
      unfold portP
      rw [if_neg hne]
    unfold PuPPost at c1
    have HP0 := Lib.hid hP0
    clear hP0 hne hS hR
    by_cases hs : ((valB 10 0 (ls T) : Nat) : Int) = std
    · have HS := Lib.hid hs
      have hsb : (((valB 10 0 (ls T) : Nat) : Int) == std) = true := by rw [hs]; simp
      clear hs
      go_enter Tryz.func87, Tryz.ntmps87
      go_wp2_with (go_at_call 114; refine c1.mono ?_; rintro e w1 ⟨⟨h1, h2, rfl⟩ | ⟨h1, v, N, rfl⟩, hb⟩)
      · go_ret2
        exact ⟨⟨_, true, rfl, by rw [HP0.out, if_pos h1, if_neg (by omega), if_pos HS.out]; rfl⟩, hb⟩
      · go_ret2
        refine ⟨⟨_, false, rfl, ?_⟩, hb⟩
        rw [HP0.out]
        by_cases h3 : (ls T).all digitU = true
        · rw [if_pos h3, if_pos (h1 h3)]; rfl
        · rw [if_neg h3]; rfl
    · have HS := Lib.hid hs
      have hsb : (((valB 10 0 (ls T) : Nat) : Int) == std) = false := by rw [beq_eq_false_iff_ne]; exact hs
      clear hs
      go_enter Tryz.func87, Tryz.ntmps87
      go_wp2_with (go_at_call 114; refine c1.mono ?_; rintro e w1 ⟨⟨h1, h2, rfl⟩ | ⟨h1, v, N, rfl⟩, hb⟩)
      · go_ret2
        exact ⟨⟨_, true, rfl, by rw [HP0.out, if_pos h1, if_neg (by omega), if_neg HS.out]; rfl⟩, hb⟩
      · go_ret2
        refine ⟨⟨_, false, rfl, ?_⟩, hb⟩
        rw [HP0.out]
        by_cases h3 : (ls T).all digitU = true
        · rw [if_pos h3, if_pos (h1 h3)]; rfl
        · rw [if_neg h3]; rfl
end

section
open Go.RowKit Go.Shelf
theorem zeroUrl (w : World) : (zeroValue 29).run Tryz.prog w = .ok (.agg uz) w := (zero_of_info (P := Tryz.prog) (t := 29) (v := .agg uz) (n := 15) (by kernel_rfl)).1 w
theorem Row.frozen9 {w : World} {g : Nat} {t : TypeId} {c : Array Value} (h : Row w g t c) (k : Nat) : w.frozen? ⟨g, k, none⟩ = false := by
  have := h
  unfold Row at this
  simp [World.frozen?, this]
theorem Row.set_same9 {w : World} {g : Nat} {t : TypeId} {c : Array Value} {k : Nat} {v : Value} (h : Row w g t c) (hv : c[k]? = some v) : Row (w.setCell ⟨g, k, none⟩ v) g t c := by
  rw [setCell_eq_setRow w g k c t (0, 0) v h, set_same hv]
  exact setRow_heap w g c c t _ h
theorem Row.set_other9 {w : World} {g b k : Nat} {t : TypeId} {c : Array Value} {v : Value} (h : Row w g t c) (hne : g ≠ b) : Row (w.setCell ⟨b, k, none⟩ v) g t c :=
  (Below.heap_setCell w ⟨b, k, none⟩ v g hne).trans h
/-- The variable of the copy, the result's variable. -/
structure CpSt (w0 W : World) (g1 g2 : Nat) (C : Array Value) : Prop where
  r1 : RowU W g1 C
  r2 : RowU W g2 uz
  bel : Below w0.heap.size w0 W
  ne : g2 ≠ g1
  le1 : w0.heap.size ≤ g1
  le2 : w0.heap.size ≤ g2
theorem CpSt.below {w0 W W' : World} {g1 g2 : Nat} {C : Array Value} (h : CpSt w0 W g1 g2 C) (hb : Below W.heap.size W W') : CpSt w0 W' g1 g2 C :=
  ⟨Row.below h.r1 hb (Row.lt h.r1), Row.below h.r2 hb (Row.lt h.r2), h.bel.trans (hb.mono h.bel.size), h.ne, h.le1, h.le2⟩
theorem CpSt.set {w0 W : World} {g1 g2 : Nat} {C : Array Value} {k : Nat} {v : Value} (h : CpSt w0 W g1 g2 C) (hv : C[k]? = some v) : CpSt w0 (W.setCell ⟨g1, k, none⟩ v) g1 g2 C :=
  ⟨Row.set_same9 h.r1 hv, Row.set_other9 h.r2 h.ne, h.bel.setCell (p := ⟨g1, k, none⟩) h.le1 _, h.ne, h.le1, h.le2⟩
set_option maxHeartbeats 1000000 in
theorem copy_cells {C : Array Value} {S U N : ByteArray} {H : Array Value} {p : Int} {R : ByteArray} (hC : UC C S U N H p R) (hS : S.size ≤ 1000000000) (hU : U.size ≤ 1000000000) (hN : N.size ≤ 1000000000) (hR : R.size ≤ 1000000000) (w : World) :
    Calls Tryz.prog 46 #[.agg C] w fun e w' => e = .returned (.agg C) ∧ Below w.heap.size w w' := by
  go_enter Tryz.func46, Tryz.ntmps46
  go_wp2_with (first
    | (refine wpList_box_arr _ rfl 1 rfl _ _ rfl _ C (by exact rfl) (by exact rfl) ?_; intro W1 g1 hg1 hl1 hR1 hG1; have hbw := below_row0 (Below.refl w.heap.size w) hG1 (Nat.le_refl _))
    | (refine wpList_alloc_arr _ rfl 2 rfl _ rfl uz zeroUrl ?_
       intro W2 g2 hg2 hl2 hR2 hG2
       have hSt : CpSt w W2 g1 g2 C := ⟨hR1.grown0 hG2, hR2, below_row0 hbw hG2 (Nat.le_refl _), by omega, hg1, by have := hbw.size; omega⟩
       obtain ⟨e0, e1, e3, e13, e14⟩ := hC.cell hSt.r1)
    | (go_at_call 47
       refine (cl_any _ _ (by assumption)).mono ?_
       rintro e w5 ⟨rfl, hb5⟩
       first | replace hSt := hSt.below hb5 | replace hSt := (hSt.set hC.c0).below hb5 | replace hSt := (hSt.set hC.c1).below hb5 | replace hSt := (hSt.set hC.c3).below hb5
       clear hb5
       obtain ⟨e0, e1, e3, e13, e14⟩ := hC.cell hSt.r1
       have f0 := hSt.r1.frozen9 0
       have f1 := hSt.r1.frozen9 1
       have f3 := hSt.r1.frozen9 3
       have f14 := hSt.r1.frozen9 14)
    | refine wpList_load_url rfl _ rfl g1 (by exact rfl) C (hSt.set hC.c14).r1 hC.sz ?_
    | (refine wpList_store_url rfl rfl _ _ rfl g2 (by exact rfl) C (by exact rfl) uz (hSt.set hC.c14).r2 rfl hC.sz hC.one ?_
       intro w7 hR7 hG7
       have hb7 := below_row (hSt.set hC.c14).bel hG7 (Nat.le_refl _) hSt.le2))
  exact ret_url1 2 rfl g2 rfl C hR7 hC.sz rfl ⟨rfl, hb7⟩
end

section
open Go.RowKit Go.Shelf
theorem itoaX_any (z : Int) (h0 : -9223372036854775808 ≤ z) (h1 : z ≤ 9223372036854775807) (w : World) (hp : Pow w) :
    Calls Tryz.prog 66 #[.int .i64 z] w fun e w' => e = .returned (.string (bs (Lib.itoa z))) ∧ Below w.heap.size w w' := by
  refine (Any.strconv_Itoa Tryz.laysM171 z h0 h1 w hp).mono ?_
  rintro e w' ⟨rfl, k, os, rfl⟩
  refine ⟨rfl, ⟨rfl, rfl, rfl, ?_, fun i hi => ?_⟩⟩
  · show w.heap.size ≤ (w.heap ++ os).size
    simp
  · show (w.heap ++ os)[i]? = w.heap[i]?
    exact Array.getElem?_append_left hi
def portX (p : Int) : List UInt8 := if p = -1 then [] else 58 :: Lib.itoa p
/-- The text, of whatever port. -/
def textX (u : Uv) : List UInt8 := if specL u.scheme = true then u.scheme ++ 58 :: 47 :: 47 :: (userT u.user ++ (fmtH u.host ++ portX u.port) ++ u.rest) else u.scheme ++ 58 :: u.rest
theorem textX_eq {u : Uv} (h : -1 ≤ u.port) : textX u = textU u := by
  have e : portX u.port = portT u.port := by
    unfold portX portT
    by_cases hp : u.port = -1
    · rw [if_pos hp, if_pos hp]
    · rw [if_neg hp, if_neg hp, Lib.itoa, if_neg (by omega)]
  unfold textX textU
  rw [e]
theorem ls1_64 : ls ⟨#[64]⟩ = [64] := rfl
theorem ls1_58 : ls ⟨#[58]⟩ = [58] := rfl
theorem ls2_47 : ls ⟨#[47, 47]⟩ = [47, 47] := rfl
set_option maxHeartbeats 1000000 in
theorem text_any (hF : HoFmt 65) (u : Uv) (hw : u.host.Wf) (hn : u.host.name.length ≤ 1000000000) (hs1 : u.scheme.length ≤ 1000000000) (hs2 : u.user.length ≤ 1000000000) (hs3 : u.rest.length ≤ 1000000000) (h0 : -9223372036854775808 ≤ u.port) (h1 : u.port ≤ 9223372036854775807) (w : World) (hP : Pow6 w) :
    Calls Tryz.prog 41 #[.agg u.cells] w fun e w' => e = .returned (.string (bs (textX u))) ∧ Below w.heap.size w w' := by
  have cF := fun W hW => hF u.host W hw hn hW
  unfold Hv.val at cF
  have hC := uc_facts u
  have hH : u.host.cells.size = 11 := rfl
  obtain ⟨C, hCe⟩ : ∃ C, C = u.cells := ⟨_, rfl⟩
  obtain ⟨H, hHe⟩ : ∃ H, H = u.host.cells := ⟨_, rfl⟩
  rw [← hCe, ← hHe] at hC
  rw [← hHe] at cF hH
  rw [← hCe]
  have cs := fun W => special_any (bs u.scheme) W
  rw [ls_bs] at cs
  obtain ⟨T, hT⟩ : ∃ T, T = bs (textX u) := ⟨_, rfl⟩
  rw [← hT]
  by_cases hq : specL u.scheme = true
  · rw [hq] at cs
    have zS : (bs u.scheme).size ≤ 1000000000 := by rw [bs_size]; exact hs1
    have zR : (bs u.rest).size ≤ 1000000000 := by rw [bs_size]; exact hs3
    have zU : (bs u.user).size ≤ 1000000000 := by rw [bs_size]; exact hs2
    have zF : (bs (fmtH u.host)).size ≤ 1000000084 := by rw [bs_size]; have := fmtH_len hw; omega
    have zP : (bs (Lib.itoa u.port)).size ≤ 21 := by rw [bs_size]; exact Lib.itoa_length_le _ h0 h1
    have ci := fun W hW => itoaX_any u.port h0 h1 W hW
    clear h0 h1
    by_cases hu : u.user = []
    · have hue : (bs u.user).toList.isEmpty = true := by rw [hu, Lib.toList_data]; rfl
      by_cases hp : u.port = -1
      · have hpe : (u.port != -1) = false := by rw [hp]; rfl
        have HT : Hid (T = bs u.scheme ++ ⟨#[58]⟩ ++ ⟨#[47, 47]⟩ ++ bs (fmtH u.host) ++ bs u.rest) := by
          refine Lib.hid (hT.trans ?_)
          unfold textX portX userT
          rw [if_pos hq, if_pos hu, if_pos hp]
          apply ls_inj
          simp only [ls_bs, ls_append, ls1_58, ls2_47]
          simp
        clear hT hu hp
        generalize bs u.scheme = S at *
        generalize bs u.rest = R at *
        generalize bs u.user = U at *
        generalize bs u.host.name = N at *
        generalize bs (fmtH u.host) = F at *
        generalize u.port = p at *
        generalize bs (Lib.itoa p) = P at *
        clear hq hCe hHe hs1 hs2 hs3 hn hw
        go_enter Tryz.func41, Tryz.ntmps41
        go_wp2_with (first
          | (refine wpList_box_arr _ rfl 1 rfl _ _ rfl _ C (by exact rfl) (by exact rfl) ?_; intro W1 g1 hg1 hl1 hR1 hG1; have hbw := below_row0 (Below.refl w.heap.size w) hG1 (Nat.le_refl _)
             obtain ⟨e0, e1, e3, e13, e14⟩ := hC.cell hR1)
          | (go_at_call 19; refine (cs _).mono ?_; rintro e w5 ⟨rfl, rfl⟩)
          | refine wpList_load_uhost rfl _ rfl g1 (by exact rfl) C hR1 H hC.hh hH ?_
          | (go_at_call 65; refine (cF _ (pow6_below hP hbw)).mono ?_; rintro e w6 ⟨rfl, hb6⟩
             replace hR1 : RowU w6 g1 C := Row.below hR1 hb6 (Row.lt hR1)
             replace hbw := hbw.trans (hb6.mono hbw.size)
             clear hb6 e0 e1 e3 e13 e14
             obtain ⟨e0, e1, e3, e13, e14⟩ := hC.cell hR1)
          | (go_at_call 66; refine (ci _ (pow6_below hP hbw).1).mono ?_; rintro e w6 ⟨rfl, hb6⟩
             replace hR1 : RowU w6 g1 C := Row.below hR1 hb6 (Row.lt hR1)
             replace hbw := hbw.trans (hb6.mono hbw.size)
             clear hb6 e0 e1 e3 e13 e14
             obtain ⟨e0, e1, e3, e13, e14⟩ := hC.cell hR1))
        go_ret
        exact ⟨by rw [HT.out]; rfl, hbw⟩
      · have hpe : (u.port != -1) = true := by rw [bne, beq_eq_false_iff_ne.2 hp]; rfl
        have HT : Hid (T = bs u.scheme ++ ⟨#[58]⟩ ++ ⟨#[47, 47]⟩ ++ bs (fmtH u.host) ++ (⟨#[58]⟩ ++ bs (Lib.itoa u.port)) ++ bs u.rest) := by
          refine Lib.hid (hT.trans ?_)
          unfold textX portX userT
          rw [if_pos hq, if_pos hu, if_neg hp]
          apply ls_inj
          simp only [ls_bs, ls_append, ls1_58, ls2_47]
          simp
        clear hT hu hp
        generalize bs u.scheme = S at *
        generalize bs u.rest = R at *
        generalize bs u.user = U at *
        generalize bs u.host.name = N at *
        generalize bs (fmtH u.host) = F at *
        generalize u.port = p at *
        generalize bs (Lib.itoa p) = P at *
        clear hq hCe hHe hs1 hs2 hs3 hn hw
        go_enter Tryz.func41, Tryz.ntmps41
        go_wp2_with (first
          | (refine wpList_box_arr _ rfl 1 rfl _ _ rfl _ C (by exact rfl) (by exact rfl) ?_; intro W1 g1 hg1 hl1 hR1 hG1; have hbw := below_row0 (Below.refl w.heap.size w) hG1 (Nat.le_refl _)
             obtain ⟨e0, e1, e3, e13, e14⟩ := hC.cell hR1)
          | (go_at_call 19; refine (cs _).mono ?_; rintro e w5 ⟨rfl, rfl⟩)
          | refine wpList_load_uhost rfl _ rfl g1 (by exact rfl) C hR1 H hC.hh hH ?_
          | (go_at_call 65; refine (cF _ (pow6_below hP hbw)).mono ?_; rintro e w6 ⟨rfl, hb6⟩
             replace hR1 : RowU w6 g1 C := Row.below hR1 hb6 (Row.lt hR1)
             replace hbw := hbw.trans (hb6.mono hbw.size)
             clear hb6 e0 e1 e3 e13 e14
             obtain ⟨e0, e1, e3, e13, e14⟩ := hC.cell hR1)
          | (go_at_call 66; refine (ci _ (pow6_below hP hbw).1).mono ?_; rintro e w6 ⟨rfl, hb6⟩
             replace hR1 : RowU w6 g1 C := Row.below hR1 hb6 (Row.lt hR1)
             replace hbw := hbw.trans (hb6.mono hbw.size)
             clear hb6 e0 e1 e3 e13 e14
             obtain ⟨e0, e1, e3, e13, e14⟩ := hC.cell hR1))
        go_ret
        exact ⟨by rw [HT.out]; rfl, hbw⟩
    · have hue : (bs u.user).toList.isEmpty = false := by
        rw [Lib.toList_data]
        show u.user.isEmpty = false
        cases h : u.user with
        | nil => exact absurd h hu
        | cons _ _ => rfl
      by_cases hp : u.port = -1
      · have hpe : (u.port != -1) = false := by rw [hp]; rfl
        have HT : Hid (T = bs u.scheme ++ ⟨#[58]⟩ ++ ⟨#[47, 47]⟩ ++ (bs u.user ++ ⟨#[64]⟩) ++ bs (fmtH u.host) ++ bs u.rest) := by
          refine Lib.hid (hT.trans ?_)
          unfold textX portX userT
          rw [if_pos hq, if_neg hu, if_pos hp]
          apply ls_inj
          simp only [ls_bs, ls_append, ls1_64, ls1_58, ls2_47]
          simp
        clear hT hu hp
        generalize bs u.scheme = S at *
        generalize bs u.rest = R at *
        generalize bs u.user = U at *
        generalize bs u.host.name = N at *
        generalize bs (fmtH u.host) = F at *
        generalize u.port = p at *
        generalize bs (Lib.itoa p) = P at *
        clear hq hCe hHe hs1 hs2 hs3 hn hw
        go_enter Tryz.func41, Tryz.ntmps41
        go_wp2_with (first
          | (refine wpList_box_arr _ rfl 1 rfl _ _ rfl _ C (by exact rfl) (by exact rfl) ?_; intro W1 g1 hg1 hl1 hR1 hG1; have hbw := below_row0 (Below.refl w.heap.size w) hG1 (Nat.le_refl _)
             obtain ⟨e0, e1, e3, e13, e14⟩ := hC.cell hR1)
          | (go_at_call 19; refine (cs _).mono ?_; rintro e w5 ⟨rfl, rfl⟩)
          | refine wpList_load_uhost rfl _ rfl g1 (by exact rfl) C hR1 H hC.hh hH ?_
          | (go_at_call 65; refine (cF _ (pow6_below hP hbw)).mono ?_; rintro e w6 ⟨rfl, hb6⟩
             replace hR1 : RowU w6 g1 C := Row.below hR1 hb6 (Row.lt hR1)
             replace hbw := hbw.trans (hb6.mono hbw.size)
             clear hb6 e0 e1 e3 e13 e14
             obtain ⟨e0, e1, e3, e13, e14⟩ := hC.cell hR1)
          | (go_at_call 66; refine (ci _ (pow6_below hP hbw).1).mono ?_; rintro e w6 ⟨rfl, hb6⟩
             replace hR1 : RowU w6 g1 C := Row.below hR1 hb6 (Row.lt hR1)
             replace hbw := hbw.trans (hb6.mono hbw.size)
             clear hb6 e0 e1 e3 e13 e14
             obtain ⟨e0, e1, e3, e13, e14⟩ := hC.cell hR1))
        go_ret
        exact ⟨by rw [HT.out]; rfl, hbw⟩
      · have hpe : (u.port != -1) = true := by rw [bne, beq_eq_false_iff_ne.2 hp]; rfl
        have HT : Hid (T = bs u.scheme ++ ⟨#[58]⟩ ++ ⟨#[47, 47]⟩ ++ (bs u.user ++ ⟨#[64]⟩) ++ bs (fmtH u.host) ++ (⟨#[58]⟩ ++ bs (Lib.itoa u.port)) ++ bs u.rest) := by
          refine Lib.hid (hT.trans ?_)
          unfold textX portX userT
          rw [if_pos hq, if_neg hu, if_neg hp]
          apply ls_inj
          simp only [ls_bs, ls_append, ls1_64, ls1_58, ls2_47]
          simp
        clear hT hu hp
        generalize bs u.scheme = S at *
        generalize bs u.rest = R at *
        generalize bs u.user = U at *
        generalize bs u.host.name = N at *
        generalize bs (fmtH u.host) = F at *
        generalize u.port = p at *
        generalize bs (Lib.itoa p) = P at *
        clear hq hCe hHe hs1 hs2 hs3 hn hw
        go_enter Tryz.func41, Tryz.ntmps41
        go_wp2_with (first
          | (refine wpList_box_arr _ rfl 1 rfl _ _ rfl _ C (by exact rfl) (by exact rfl) ?_; intro W1 g1 hg1 hl1 hR1 hG1; have hbw := below_row0 (Below.refl w.heap.size w) hG1 (Nat.le_refl _)
             obtain ⟨e0, e1, e3, e13, e14⟩ := hC.cell hR1)
          | (go_at_call 19; refine (cs _).mono ?_; rintro e w5 ⟨rfl, rfl⟩)
          | refine wpList_load_uhost rfl _ rfl g1 (by exact rfl) C hR1 H hC.hh hH ?_
          | (go_at_call 65; refine (cF _ (pow6_below hP hbw)).mono ?_; rintro e w6 ⟨rfl, hb6⟩
             replace hR1 : RowU w6 g1 C := Row.below hR1 hb6 (Row.lt hR1)
             replace hbw := hbw.trans (hb6.mono hbw.size)
             clear hb6 e0 e1 e3 e13 e14
             obtain ⟨e0, e1, e3, e13, e14⟩ := hC.cell hR1)
          | (go_at_call 66; refine (ci _ (pow6_below hP hbw).1).mono ?_; rintro e w6 ⟨rfl, hb6⟩
             replace hR1 : RowU w6 g1 C := Row.below hR1 hb6 (Row.lt hR1)
             replace hbw := hbw.trans (hb6.mono hbw.size)
             clear hb6 e0 e1 e3 e13 e14
             obtain ⟨e0, e1, e3, e13, e14⟩ := hC.cell hR1))
        go_ret
        exact ⟨by rw [HT.out]; rfl, hbw⟩
  · have hq' : specL u.scheme = false := by simpa using hq
    rw [hq'] at cs
    have HT : Hid (T = bs u.scheme ++ ⟨#[58]⟩ ++ bs u.rest) := by
      refine Lib.hid (hT.trans ?_)
      unfold textX
      rw [if_neg hq]
      apply ls_inj
      rw [ls_bs, ls_append, ls_append, ls_bs, ls_bs, show ls ⟨#[58]⟩ = [58] from rfl]
      simp
    have zS : (bs u.scheme).size ≤ 1000000000 := by rw [bs_size]; exact hs1
    have zR : (bs u.rest).size ≤ 1000000000 := by rw [bs_size]; exact hs3
    generalize bs u.scheme = S at *
    generalize bs u.rest = R at *
    generalize bs u.user = U at *
    generalize bs u.host.name = N at *
    clear hT hq hq' hCe hHe cF hs1 hs2 hs3 hn hw
    go_enter Tryz.func41, Tryz.ntmps41
    go_wp2_with (first
      | (refine wpList_box_arr _ rfl 1 rfl _ _ rfl _ C (by exact rfl) (by exact rfl) ?_; intro W1 g1 hg1 hl1 hR1 hG1; have hbw := below_row0 (Below.refl w.heap.size w) hG1 (Nat.le_refl _)
         obtain ⟨e0, e1, e3, e13, e14⟩ := hC.cell hR1)
      | (go_at_call 19; refine (cs _).mono ?_; rintro e w5 ⟨rfl, rfl⟩))
    go_ret
    exact ⟨by rw [HT.out]; rfl, hbw⟩
end

section
open Go.RowKit Go.Shelf
/-- What the walks ask of the world: the library's tables and errors. -/
def Uw (w : World) : Prop := Hw w ∧ RngE w
theorem uw_below {w w' : World} (h : Uw w) (hb : Below w.heap.size w w') : Uw w' := ⟨hw_below h.1 hb, rng_below h.2 hb⟩
/-- What parsing a URL answers. -/
def UrlPost (w : World) (q : Nat × Uv) (e : Ending) (w' : World) : Prop := e = .returned (.tuple #[.agg q.2.cells, .int .i64 (q.1 : Nat)]) ∧ Below w.heap.size w w'
theorem cpre2_any (s : ByteArray) (w : World) : Calls Tryz.prog 82 #[.string s, .string ⟨#[47, 47]⟩] w fun e w' =>
    e = .returned (.tuple #[.string (if (ls s).take 2 = [47, 47] then bs ((ls s).drop 2) else s), .bool (decide ((ls s).take 2 = [47, 47]))]) ∧ w' = w := by
  have h := Any.strings_CutPrefix Tryz.lays103 s ⟨#[47, 47]⟩ w
  have e : Lib.hasPrefix s.data.toList (⟨#[47, 47]⟩ : ByteArray).data.toList = decide ((ls s).take 2 = [47, 47]) := by
    show ([47, 47] : List UInt8).isPrefixOf (ls s) = _
    rw [Bool.eq_iff_iff, List.isPrefixOf_iff_prefix, decide_eq_true_iff, List.prefix_iff_eq_take]
    exact eq_comm
  unfold Lib.trimPrefix at h
  rw [e] at h
  refine h.mono ?_
  rintro r w' ⟨rfl, rfl⟩
  refine ⟨?_, rfl⟩
  by_cases h : (ls s).take 2 = [47, 47]
  · rw [decide_eq_true h, if_pos rfl, if_pos h]
    rfl
  · rw [decide_eq_false h, if_neg (by simp), if_neg h]
theorem bef_len (p : UInt8 → Bool) (l : List UInt8) : (befL p l).length ≤ l.length ∧ (fromL p l).length ≤ l.length := by
  have := congrArg List.length (bef_from p l)
  rw [List.length_append] at this
  omega
theorem cutP_len {a x y : List UInt8} (h : cutP a = some (x, y)) : x.length ≤ a.length ∧ y.length ≤ a.length := by
  unfold cutP at h
  split at h
  · unfold cutB at h
    have e := congrArg List.length (bef_from (isB 93) a)
    rw [List.length_append] at e
    split at h
    · cases h
    · rename_i b hb
      injection h with h
      injection h with h1 h2
      rw [hb] at e
      rw [← h1, ← h2]
      simp at e ⊢
      omega
    · rename_i b c d hb
      split at h
      · injection h with h
        injection h with h1 h2
        rw [hb] at e
        rw [← h1, ← h2]
        simp at e ⊢
        omega
      · cases h
  · injection h with h
    injection h with h1 h2
    have := bef_len (isB 58) a
    rw [← h1, ← h2, List.length_drop]
    omega
theorem addr_len (l : List UInt8) : (addrL l).length ≤ l.length ∧ (userL l).length ≤ l.length := by
  have := bef_len (isB 64) l.reverse
  rw [List.length_reverse] at this
  unfold addrL userL
  simp only [List.length_reverse, List.length_drop]
  omega
set_option maxRecDepth 20000 in
set_option maxHeartbeats 4000000 in
theorem parseS_any (hPar : HoPar 86) (S T : ByteArray) (w : World) (zS : S.size ≤ 1000000000) (zT : T.size ≤ 999999999) (hw : Uw w) :
    Calls Tryz.prog 61 #[.string S, .string T] w (UrlPost w (specP (ls S) (ls T))) := by
  have c1 := fun W => cpre2_any T W
  by_cases h1 : (ls T).take 2 = [47, 47]
  · simp only [if_pos h1, decide_eq_true h1] at c1
    have hsp : specP (ls S) (ls T) = authP (ls S) (befL endA ((ls T).drop 2)) (fromL endA ((ls T).drop 2)) := by unfold specP; rw [if_pos h1]
    have hlD : ((ls T).drop 2).length ≤ 999999999 := by rw [List.length_drop, ls_length]; omega
    generalize (ls T).drop 2 = D at *
    have c2 := fun W => cutA_any (bs D) W (by rw [bs_size]; omega)
    rw [ls_bs] at c2
    have hlA := bef_len endA D
    generalize befL endA D = A at *
    generalize fromL endA D = R at *
    have c3 := fun W => cutU_any (bs A) W (by rw [bs_size]; omega)
    rw [ls_bs] at c3
    have hlU := addr_len A
    have hau : authP (ls S) A R = match cutP (addrL A) with
        | none => (4, uv0)
        | some q => hostP (ls S) (userL A) R q.1 q.2 := rfl
    generalize addrL A = E at *
    generalize userL A = U at *
    have c4 := fun W => cutPo_any (bs E) W (by rw [bs_size]; omega)
    unfold PortPost at c4
    rw [ls_bs] at c4
    have zU : U.length ≤ 1000000000 := by omega
    have zR : R.length ≤ 999999999 := by omega
    have zE : E.length ≤ 1000000000 := by omega
    have HSP := Lib.hid (hsp.trans hau)
    have HW := Lib.hid hw
    clear hsp hau hlU hlA hlD h1 zT hw
    go_enter Tryz.func61, Tryz.ntmps61
    go_wp2_with (first
      | (refine wpList_alloc_arr _ rfl 4 rfl _ rfl uz zeroUrl ?_
         intro W1 g4 hg4 hl4 hr4 hG
         have hbw := below_row0 (Below.refl w.heap.size w) hG (Nat.le_refl _))
      | (go_at_call 82; refine (c1 _).mono ?_; rintro e w5 ⟨rfl, rfl⟩)
      | (go_at_call 83; refine (c2 _).mono ?_; rintro e w5 ⟨rfl, hb5⟩
         replace hr4 : RowU w5 g4 uz := Row.below hr4 hb5 (Row.lt hr4)
         replace hbw := hbw.trans (hb5.mono hbw.size)
         clear hb5)
      | (go_at_call 84; refine (c3 _).mono ?_; rintro e w6 ⟨rfl, hb6⟩
         replace hr4 : RowU w6 g4 uz := Row.below hr4 hb6 (Row.lt hr4)
         replace hbw := hbw.trans (hb6.mono hbw.size)
         clear hb6))
    refine (c4 _).mono ?_
    rintro e w7 ⟨⟨x, y, ok, rfl, hcp⟩, hb7⟩
    replace hr4 : RowU w7 g4 uz := Row.below hr4 hb7 (Row.lt hr4)
    replace hbw := hbw.trans (hb7.mono hbw.size)
    clear hb7
    cases ok with
    | false =>
      have HP : Hid (specP (ls S) (ls T) = (4, uv0)) := Lib.hid (by rw [HSP.out, hcp]; rfl)
      clear hcp
      go_wp2_with (refine wpList_store_url rfl rfl _ _ rfl g4 (by exact rfl) uz (by exact rfl) uz hr4 rfl rfl (uc_one _ _ _ _ _ _ _ _) ?_
                   intro w8 hr8 hG8
                   have hb8 := below_row hbw hG8 (Nat.le_refl _) hg4)
      exact ret_url 4 5 rfl g4 rfl uz hr8 rfl _ rfl rfl ⟨by rw [HP.out]; rfl, hb8⟩
    | true =>
      rw [if_pos rfl] at hcp
      have hlx := cutP_len hcp
      rw [ls_length, ls_length] at hlx
      have hw7 := uw_below HW.out (hbw.mono (Nat.le_refl _))
      have c5 := hPar x w7 (by omega) hw7.1
      unfold HostPost at c5
      have HP : Hid (specP (ls S) (ls T) = hostP (ls S) U R (ls x) (ls y)) := Lib.hid (by rw [HSP.out, hcp])
      clear hcp
      obtain ⟨q, hq⟩ : ∃ q, q = parseH (ls x) := ⟨_, rfl⟩
      rw [← hq] at c5
      have HQ := Lib.hid hq
      clear hq
      obtain ⟨n1, h⟩ := q
      simp only at c5
      by_cases hn : n1 = 0
      · subst hn
        have hH1 : h.cells.all (·.oneCell') = true := hc_one _ _ _ _
        obtain ⟨k, N, v, x0, x1, x2, x3, x4, x5, x6, x7, R2, zN, hR2, eH, hUC, hPn, hPs⟩ : ∃ (k : Int) (N : ByteArray) (v x0 x1 x2 x3 x4 x5 x6 x7 : Int) (R2 : ByteArray), N.size ≤ 1000000000 ∧ R2 = bs (restP R) ∧ h.cells = #[.int .i64 k, .string N, .int .u32 v, .int .u16 x0, .int .u16 x1, .int .u16 x2, .int .u16 x3, .int .u16 x4, .int .u16 x5, .int .u16 x6, .int .u16 x7] ∧
            (∀ p, UC #[.string S, .string (bs U), .int .i64 k, .string N, .int .u32 v, .int .u16 x0, .int .u16 x1, .int .u16 x2, .int .u16 x3, .int .u16 x4, .int .u16 x5, .int .u16 x6, .int .u16 x7, .int .i64 p, .string R2] S (bs U) N h.cells p R2) ∧ (portP (ls y) (stdP (ls S)) = none → specP (ls S) (ls T) = (16, uv0)) ∧
            (∀ p, portP (ls y) (stdP (ls S)) = some p → (specP (ls S) (ls T)).1 = 0 ∧ (specP (ls S) (ls T)).2.cells = #[.string S, .string (bs U), .int .i64 k, .string N, .int .u32 v, .int .u16 x0, .int .u16 x1, .int .u16 x2, .int .u16 x3, .int .u16 x4, .int .u16 x5, .int .u16 x6, .int .u16 x7, .int .i64 p, .string R2]) := by
          refine ⟨h.kind, bs h.name, (h.v4 : Nat), ((h.v6.getD 0 0 : Nat) : Int), ((h.v6.getD 1 0 : Nat) : Int), ((h.v6.getD 2 0 : Nat) : Int), ((h.v6.getD 3 0 : Nat) : Int), ((h.v6.getD 4 0 : Nat) : Int), ((h.v6.getD 5 0 : Nat) : Int), ((h.v6.getD 6 0 : Nat) : Int), ((h.v6.getD 7 0 : Nat) : Int), bs (restP R), ?_, rfl, rfl, ?_, ?_, ?_⟩
          · have := parseH_name (ls x)
            rw [← HQ.out] at this
            rw [bs_size]
            show h.name.length ≤ _
            simp only at this
            omega
          · intro p
            have := uc_facts ⟨ls S, U, h, p, restP R⟩
            simp only [bs_ls] at this
            exact this
          · intro hp
            rw [HP.out]
            unfold hostP
            rw [← HQ.out, if_pos rfl, hp]
          · intro p hp
            rw [HP.out]
            unfold hostP
            rw [← HQ.out, if_pos rfl, hp]
            exact ⟨rfl, rfl⟩
        rw [eH] at c5 hH1 hUC
        have HPN := Lib.hid hPn
        have HPS := Lib.hid hPs
        have HUC := Lib.hid hUC
        have HR2 := Lib.hid hR2
        have c6 := fun W => defP_any S W
        obtain ⟨std, hstd⟩ : ∃ z, z = stdP (ls S) := ⟨_, rfl⟩
        rw [← hstd] at c6 HPN HPS
        have c8 := fun W => hpre1_any (bs R) 47 W
        rw [ls_bs] at c8
        have zU2 : (bs U).size ≤ 1000000000 := by rw [bs_size]; exact zU
        have zR1 : (bs R).size ≤ 1000000000 := by rw [bs_size]; omega
        clear hPn hPs hUC hR2 hstd eH
        go_wp2_with fail
        refine c5.mono ?_
        rintro e w8 ⟨rfl, hb8⟩
        have hlt4 : g4 < w8.heap.size := Nat.lt_of_lt_of_le (Row.lt hr4) hb8.size
        replace hr4 : RowU w8 g4 uz := Row.below hr4 hb8 (Row.lt hr4)
        replace hbw := hbw.trans (hb8.mono hbw.size)
        have hr14 : RowH (w8.alloc (.cells #[.int .i64 k, .string N, .int .u32 v, .int .u16 x0, .int .u16 x1, .int .u16 x2, .int .u16 x3, .int .u16 x4, .int .u16 x5, .int .u16 x6, .int .u16 x7] 27)) w8.heap.size #[.int .i64 k, .string N, .int .u32 v, .int .u16 x0, .int .u16 x1, .int .u16 x2, .int .u16 x3, .int .u16 x4, .int .u16 x5, .int .u16 x6, .int .u16 x7] := row_new w8 _ _
        replace hr4 : RowU (w8.alloc (.cells #[.int .i64 k, .string N, .int .u32 v, .int .u16 x0, .int .u16 x1, .int .u16 x2, .int .u16 x3, .int .u16 x4, .int .u16 x5, .int .u16 x6, .int .u16 x7] 27)) g4 uz := Row.grown0 hr4 (World.grownBy_alloc w8 _ _)
        have hne4 : g4 ≠ w8.heap.size := Nat.ne_of_lt hlt4
        have h14 := hbw.size
        replace hbw := hbw.alloc h14 (.cells #[.int .i64 k, .string N, .int .u32 v, .int .u16 x0, .int .u16 x1, .int .u16 x2, .int .u16 x3, .int .u16 x4, .int .u16 x5, .int .u16 x6, .int .u16 x7] 27)
        clear hb8
        go_wp2_with (go_at_call 43; refine (c6 _).mono ?_; rintro e w5 ⟨rfl, rfl⟩)
        have hW9 := uw_below HW.out hbw
        refine (port_any y std (by omega) _ hW9.1.2.2 hW9.2).mono ?_
        rintro e w10 ⟨⟨p, ok, rfl, hpp⟩, hb10⟩
        replace hr4 : RowU w10 g4 uz := Row.below hr4 hb10 (Row.lt hr4)
        replace hr14 : RowH w10 w8.heap.size #[.int .i64 k, .string N, .int .u32 v, .int .u16 x0, .int .u16 x1, .int .u16 x2, .int .u16 x3, .int .u16 x4, .int .u16 x5, .int .u16 x6, .int .u16 x7] := Row.below hr14 hb10 (Row.lt hr14)
        replace hbw := hbw.trans (hb10.mono hbw.size)
        clear hb10 hW9
        cases ok with
        | false =>
          have HP3 := Lib.hid (HPN.out hpp)
          clear hpp
          go_wp2_with (refine wpList_store_url rfl rfl _ _ rfl g4 (by exact rfl) uz (by exact rfl) uz hr4 rfl rfl (uc_one _ _ _ _ _ _ _ _) ?_
                       intro w11 hr11 hG11
                       have hb11 := below_row hbw hG11 (Nat.le_refl _) hg4)
          exact ret_url 4 5 rfl g4 rfl uz hr11 rfl _ rfl rfl ⟨by rw [HP3.out]; rfl, hb11⟩
        | true =>
          have HP3 := Lib.hid (HPS.out p hpp)
          have hUCp := HUC.out p
          clear hpp
          by_cases hd : R.head? = some 47
          · have eR : bs R = R2 := by rw [HR2.out]; unfold restP; rw [if_pos hd]
            rw [decide_eq_true hd, eR] at c8
            rw [eR] at zR1 ⊢
            clear hd
            go_wp2_with (first
              | (go_at_call 88; refine (c8 _).mono ?_; rintro e w5 ⟨rfl, rfl⟩)
              | (refine wpList_load_host rfl _ rfl w8.heap.size (by exact rfl) #[.int .i64 k, .string N, .int .u32 v, .int .u16 x0, .int .u16 x1, .int .u16 x2, .int .u16 x3, .int .u16 x4, .int .u16 x5, .int .u16 x6, .int .u16 x7] hr14 rfl ?_)
              | (go_at_call 46; refine (copy_cells hUCp zS zU2 zN zR1 _).mono ?_; rintro e w12 ⟨rfl, hb12⟩
                 replace hr4 : RowU w12 g4 uz := Row.below hr4 hb12 (Row.lt hr4)
                 replace hbw := hbw.trans (hb12.mono hbw.size))
              | (refine wpList_store_url rfl rfl _ _ rfl g4 (by exact rfl) #[.string S, .string (bs U), .int .i64 k, .string N, .int .u32 v, .int .u16 x0, .int .u16 x1, .int .u16 x2, .int .u16 x3, .int .u16 x4, .int .u16 x5, .int .u16 x6, .int .u16 x7, .int .i64 p, .string R2] (by exact rfl) uz hr4 rfl rfl hUCp.one ?_
                 intro w13 hr13 hG13
                 have hb13 := below_row hbw hG13 (Nat.le_refl _) hg4))
            exact ret_url 4 5 rfl g4 rfl #[.string S, .string (bs U), .int .i64 k, .string N, .int .u32 v, .int .u16 x0, .int .u16 x1, .int .u16 x2, .int .u16 x3, .int .u16 x4, .int .u16 x5, .int .u16 x6, .int .u16 x7, .int .i64 p, .string R2] hr13 rfl _ rfl rfl ⟨by rw [HP3.out.1, HP3.out.2]; rfl, hb13⟩
          · have eR : (⟨#[47]⟩ : ByteArray) ++ bs R = R2 := by
              rw [HR2.out]
              unfold restP
              rw [if_neg hd]
              apply ls_inj
              rw [ls_append, ls_bs, ls_bs]
              rfl
            rw [decide_eq_false hd] at c8
            have zR2 : R2.size ≤ 1000000000 := by
              rw [← eR, ByteArray.size_append]
              have : (⟨#[47]⟩ : ByteArray).size = 1 := rfl
              rw [bs_size] at zR1 ⊢
              omega
            have HE := Lib.hid eR
            clear hd eR
            go_wp2_with (first
              | (go_at_call 88; refine (c8 _).mono ?_; rintro e w5 ⟨rfl, rfl⟩)
              | (refine wpList_load_host rfl _ rfl w8.heap.size (by exact rfl) #[.int .i64 k, .string N, .int .u32 v, .int .u16 x0, .int .u16 x1, .int .u16 x2, .int .u16 x3, .int .u16 x4, .int .u16 x5, .int .u16 x6, .int .u16 x7] hr14 rfl ?_)
              | (go_at_call 46; rw [HE.out]; refine (copy_cells hUCp zS zU2 zN zR2 _).mono ?_; rintro e w12 ⟨rfl, hb12⟩
                 replace hr4 : RowU w12 g4 uz := Row.below hr4 hb12 (Row.lt hr4)
                 replace hbw := hbw.trans (hb12.mono hbw.size))
              | (refine wpList_store_url rfl rfl _ _ rfl g4 (by exact rfl) #[.string S, .string (bs U), .int .i64 k, .string N, .int .u32 v, .int .u16 x0, .int .u16 x1, .int .u16 x2, .int .u16 x3, .int .u16 x4, .int .u16 x5, .int .u16 x6, .int .u16 x7, .int .i64 p, .string R2] (by exact rfl) uz hr4 rfl rfl hUCp.one ?_
                 intro w13 hr13 hG13
                 have hb13 := below_row hbw hG13 (Nat.le_refl _) hg4))
            exact ret_url 4 5 rfl g4 rfl #[.string S, .string (bs U), .int .i64 k, .string N, .int .u32 v, .int .u16 x0, .int .u16 x1, .int .u16 x2, .int .u16 x3, .int .u16 x4, .int .u16 x5, .int .u16 x6, .int .u16 x7, .int .i64 p, .string R2] hr13 rfl _ rfl rfl ⟨by rw [HP3.out.1, HP3.out.2]; rfl, hb13⟩
      · have hne : ((n1 : Int) != 0) = true := by rw [bne, beq_eq_false_iff_ne.2 (by omega)]; rfl
        have HP2 : Hid (specP (ls S) (ls T) = (n1, uv0)) := Lib.hid (by rw [HP.out]; unfold hostP; rw [← HQ.out, if_neg hn])
        have hH : h.cells.size = 11 := rfl
        have hH1 : h.cells.all (·.oneCell') = true := hc_one _ _ _ _
        generalize h.cells = H at *
        go_wp2_with fail
        refine c5.mono ?_
        rintro e w8 ⟨rfl, hb8⟩
        have hlt4 : g4 < w8.heap.size := Nat.lt_of_lt_of_le (Row.lt hr4) hb8.size
        replace hr4 : RowU w8 g4 uz := Row.below hr4 hb8 (Row.lt hr4)
        replace hbw := hbw.trans (hb8.mono hbw.size)
        have hr14 : RowH (w8.alloc (.cells hz 27)) w8.heap.size hz := row_new w8 _ _
        replace hr4 : RowU (w8.alloc (.cells hz 27)) g4 uz := Row.grown0 hr4 (World.grownBy_alloc w8 _ _)
        have hne4 : g4 ≠ w8.heap.size := Nat.ne_of_lt hlt4
        have h14 := hbw.size
        replace hbw := hbw.alloc h14 (.cells hz 27)
        clear hb8
        go_wp2_with (first
          | (refine wpList_store_host rfl rfl _ _ rfl w8.heap.size (by exact rfl) H (by exact rfl) hz hr14 rfl hH hH1 ?_
             intro w9 hr9 hG9
             replace hr4 : RowU w9 g4 uz := Row.grown hr4 hG9 hne4
             replace hbw := below_row hbw hG9 (Nat.le_refl _) h14)
          | (refine wpList_store_url rfl rfl _ _ rfl g4 (by exact rfl) uz (by exact rfl) uz hr4 rfl rfl (uc_one _ _ _ _ _ _ _ _) ?_
             intro w8 hr8 hG8
             have hb8 := below_row hbw hG8 (Nat.le_refl _) hg4))
        exact ret_url 4 5 rfl g4 rfl uz hr8 rfl _ rfl rfl ⟨by rw [HP2.out]; rfl, hb8⟩
  · have HP : Hid (specP (ls S) (ls T) = (4, uv0)) := Lib.hid (by unfold specP; rw [if_neg h1])
    simp only [if_neg h1, decide_eq_false h1] at c1
    clear h1 hw
    go_enter Tryz.func61, Tryz.ntmps61
    go_wp2_with (first
      | (refine wpList_alloc_arr _ rfl 4 rfl _ rfl uz zeroUrl ?_
         intro W1 g4 hg4 hl4 hr4 hG
         have hbw := below_row0 (Below.refl w.heap.size w) hG (Nat.le_refl _))
      | (go_at_call 82; refine (c1 _).mono ?_; rintro e w5 ⟨rfl, rfl⟩)
      | (refine wpList_store_url rfl rfl _ _ rfl g4 (by exact rfl) uz (by exact rfl) uz hr4 rfl rfl (uc_one _ _ _ _ _ _ _ _) ?_
         intro w7 hr7 hG7
         have hb7 := below_row hbw hG7 (Nat.le_refl _) hg4))
    exact ret_url 4 5 rfl g4 rfl uz hr7 rfl _ rfl rfl ⟨by rw [HP.out]; rfl, hb7⟩
end

end Go.Proofs.YtdfacgncphmcoaaGreatDoor
