/-
  Contract of groups of the reference of layer 11 (written by tools/gen-I62.py).
-/
import Derived.Test.YthihfhmclmmadaaDoorI61
import Derived.Test.YthihfhmclmmadaaDoorIp3
namespace Go.Proofs.YthihfhmclmmadaaDoor
open Go.RowKit

theorem tyU16s : Tryd.prog.underlying 47 = some (.slice 22) := by kernel_rfl
theorem tyU16 : Tryd.prog.underlying 22 = some (.int .u16) := by kernel_rfl
theorem infoU16 : (Tryd.prog.info? 22).map (fun i => (i.zero, i.size, i.bytes)) = some (some (.int .u16 0), 1, 2) := by kernel_rfl
theorem sizeU16 : (Tryd.prog.info? 22).map (·.size) = some 1 := by kernel_rfl
/-- Groups as values. -/
def uv (g : List Nat) : List Value := g.map fun (x : Nat) => .int .u16 (x : Int)
theorem uv_length (g : List Nat) : (uv g).length = g.length := by simp [uv]
theorem uv_append (g h : List Nat) : uv g ++ uv h = uv (g ++ h) := by simp [uv]
theorem uv_one (g : List Nat) : ∀ v ∈ uv g, v.oneCell' = true := by
  intro v hv
  obtain ⟨x, _, rfl⟩ := List.mem_map.1 hv
  rfl
theorem uv_cell {w : World} {B n : Nat} {A : Option Addr} {g : List Nat} (h : Has w B A n (uv g)) (k : Nat) (hk : k < n) : ∃ b off, A = some ⟨b, off, none⟩ ∧ w.cell? ⟨b, off + k, none⟩ = some (.int .u16 ((g.getD k 0 : Nat) : Int)) := by
  have hl : (uv g).length = n := h.1
  rw [uv_length] at hl
  obtain ⟨b, off, e, _, hc⟩ := h.at_ hk
  refine ⟨b, off, e, ?_⟩
  rw [hc, List.getD_eq_getElem?_getD, List.getElem?_eq_getElem (by omega), Option.getD_some]
  simp [uv]
/-- The groups of a string, as the reference answers them. -/
def GrpPost (o : Option (List Nat)) (w : World) (e : Ending) (w' : World) : Prop :=
  ∃ v, e = .returned (.tuple #[v, .bool o.isSome]) ∧ w'.ownsRow w.heap.size 22 1 v (o.getD []).length (uv (o.getD [])) ∧ Below w.heap.size w w'
theorem GrpPost.no {o : Option (List Nat)} {w w' : World} (h : o = none) (hb : Below w.heap.size w w') : GrpPost o w (.returned (.tuple #[.slice none 0 0, .bool false])) w' := by
  subst h
  exact ⟨_, rfl, World.ownsRow_nil _ _ _ _, hb⟩
theorem own_low6 {w : World} {b b' e n : Nat} {v : Value} {xs : List Value} (h : w.ownsRow b e 1 v n xs) (hb : b' ≤ b) : w.ownsRow b' e 1 v n xs := by
  refine ⟨h.1, ?_⟩
  rcases h.2 with h0 | ⟨g, cap, cur, h1, h2, h3⟩
  · exact .inl h0
  · exact .inr ⟨g, cap, cur, h1, by omega, h3⟩

theorem cell_lt6 {w : World} {b j : Nat} {v : Value} (h : w.cell? ⟨b, j, none⟩ = some v) : b < w.heap.size := by
  rcases Nat.lt_or_ge b w.heap.size with h1 | h1
  · exact h1
  · have : w.heap[b]? = none := by rw [Array.getElem?_eq_none_iff]; exact h1
    simp [World.cell?, this] at h
theorem grpGo_one (x : List UInt8) (last : Bool) : grpGo [x] last = match (if last then parseL x else none) with
    | some v => some [v / 65536, v % 65536]
    | none => match hexL x with
      | some g => some [g]
      | none => none := rfl
theorem grp_hex_some {x : List UInt8} {rest : List (List UInt8)} {last : Bool} {g : Nat} (h : ¬ ((parseL x).isSome = true ∧ last = true ∧ rest = [])) (hg : hexL x = some g) : grpGo (x :: rest) last = (grpGo rest last).map (g :: ·) := by
  cases rest with
  | nil =>
    rw [grpGo_one]
    have : (if last = true then parseL x else none) = none := by
      cases last with
      | false => rfl
      | true => cases hp : parseL x with
        | none => rfl
        | some v => exact absurd ⟨by rw [hp]; rfl, rfl, rfl⟩ h
    rw [this, hg]; rfl
  | cons y r =>
    rw [grpGo, hg]
    cases grpGo (y :: r) last <;> rfl
theorem grp_hex_none {x : List UInt8} {rest : List (List UInt8)} {last : Bool} (h : ¬ ((parseL x).isSome = true ∧ last = true ∧ rest = [])) (hg : hexL x = none) : grpGo (x :: rest) last = none := by
  cases rest with
  | nil =>
    rw [grpGo_one]
    have : (if last = true then parseL x else none) = none := by
      cases last with
      | false => rfl
      | true => cases hp : parseL x with
        | none => rfl
        | some v => exact absurd ⟨by rw [hp]; rfl, rfl, rfl⟩ h
    rw [this, hg]
  | cons y r => rw [grpGo, hg]
theorem splitG_sizes6 (c : UInt8) : ∀ l cur, ∀ x ∈ splitG c l cur, x.length ≤ l.length + cur.length
  | [], cur, x, hx => by simp [splitG] at hx; subst hx; simp
  | b :: r, cur, x, hx => by
    unfold splitG at hx
    split at hx
    · rcases List.mem_cons.1 hx with h | h
      · subst h; simp
      · have := splitG_sizes6 c r [] x h; simp at this ⊢; omega
    · have := splitG_sizes6 c r (cur ++ [b]) x hx; simp at this ⊢; omega

set_option maxRecDepth 20000 in
set_option maxHeartbeats 4000000 in
theorem refGroups_any (s : ByteArray) (last : Bool) (w : World) (hs : s.size ≤ 1000000000) :
    Calls Tryd.prog 21 #[.string s, .bool last] w (GrpPost (groupsL (ls s) last) w) := by
  by_cases h0 : s.size = 0
  · have hnil : ls s = [] := List.eq_nil_of_length_eq_zero (by rw [ls_length]; exact h0)
    have hbe : (s.toList == ([] : List UInt8)) = true := by rw [toList_ls, hnil]; rfl
    have HG : Hid (groupsL (ls s) last = some []) := by rw [hnil]; exact Lib.hid rfl
    clear h0 hnil
    go_enter Tryd.func21, Tryd.ntmps21
    go_wp2
    go_ret2
    rw [HG.out]
    exact ⟨_, rfl, World.ownsRow_nil _ _ _ _, Below.refl _ _⟩
  · have hne : ls s ≠ [] := by intro e; have := ls_length s; rw [e] at this; simp at this; omega
    have hbe : (s.toList == ([] : List UInt8)) = false := by rw [toList_ls]; cases hx : ls s with
      | nil => exact absurd hx hne
      | cons c r => rfl
    have HG : Hid (groupsL (ls s) last = grpGo (splitL 58 (ls s)) last) := by show _ = _; unfold groupsL; rw [if_neg hne]
    have hspl := refSplit_any s 58 w hs
    have hlen := splitL_length 58 (ls s)
    have hszs : ∀ x ∈ splitL 58 (ls s), x.length ≤ 1000000000 := fun x hx => by have := splitG_sizes6 58 (ls s) [] x hx; rw [ls_length] at this; simp at this; omega
    rw [ls_length] at hlen
    have hpos := splitL_pos 58 (ls s)
    generalize splitL 58 (ls s) = P at *
    generalize groupsL (ls s) last = G at *
    obtain ⟨i16, hi16, hz0, hz1, hz2⟩ := info_parts infoU16
    obtain ⟨n, hn⟩ : ∃ n, n = P.length := ⟨_, rfl⟩
    clear h0 hne
    go_enter Tryd.func21, Tryd.ntmps21
    go_wp2_with fail
    refine hspl.mono ?_
    rintro e w1 ⟨v, m, rfl, hown, hb⟩
    obtain ⟨A, c, rfl, hh, hmc⟩ := Has.of_own hown
    obtain rfl : m = n := by have := hh.1; rw [wv_length] at this; omega
    clear hspl hown
    obtain ⟨b, off, rfl, _⟩ := str_cell hh 0 (by omega)
    have HH := Lib.hid hh
    have HM := Lib.hid hn
    have HSZ := Lib.hid hszs
    have hmb : m ≤ 1000000001 := by omega
    clear hn hh hszs hpos
    go_wp2
    go_loopw [6, 8] (fun v i wr => ∃ (k : Nat) (acc : List Nat), k ≤ m ∧ i = .int .i64 k ∧ acc.length ≤ 2 * k ∧ Hid (G = (grpGo (P.drop k) last).map (acc ++ ·)) ∧ wr.ownsRow w1.heap.size 22 1 v acc.length (uv acc) ∧ Below w1.heap.size w1 wr) (fun _ i _ => m - (intOf i).toNat)
    case atStart => exact ⟨0, [], Nat.zero_le _, rfl, by simp, Lib.hid (by rw [HG.out]; simp), World.ownsRow_nil _ _ _ _, Below.refl _ _⟩
    case round =>
      obtain ⟨k, acc, hk, rfl, hal, HR, hown, hb2⟩ := hrel
      by_cases hlt : k < m
      · obtain ⟨b', off', e, hcell⟩ := str_cell (HH.out.below hb2) k hlt
        injection e with e
        injection e with e1 e2 _
        subst e1 e2
        have hkP : k < P.length := by rw [← HM.out]; exact hlt
        have hdr : P.drop k = P.getD k [] :: P.drop (k + 1) := by
          rw [List.drop_eq_getElem_cons hkP, List.getD_eq_getElem?_getD, List.getElem?_eq_getElem hkP, Option.getD_some]
        have hxs : (P.getD k []).length ≤ 1000000000 := HSZ.out _ (by rw [List.getD_eq_getElem?_getD, List.getElem?_eq_getElem hkP, Option.getD_some]; exact List.getElem_mem hkP)
        have HR2 := HR.out
        rw [hdr] at HR2
        have hrest : P.drop (k + 1) = [] ↔ k + 1 = m := by
          rw [List.drop_eq_nil_iff, ← HM.out]; omega
        generalize P.getD k [] = x at *
        have HX := Lib.hid HR2
        have HRE := Lib.hid hrest
        have c1 := fun W => refParse_any (bs x) W (by rw [bs_size]; exact hxs)
        have c2 := fun W => refHex_any (bs x) W (by rw [bs_size]; exact hxs)
        rw [ls_bs] at c1 c2
        obtain ⟨X, hX⟩ : ∃ X, X = bs x := ⟨_, rfl⟩
        rw [← hX] at c1 c2 hcell
        clear HR2 hdr HR hX hxs hkP hrest
        have hlast : ((k : Int) == (m : Int) - 1) = decide (k + 1 = m) := by
          apply Bool.eq_iff_iff.2
          simp only [beq_iff_eq, decide_eq_true_eq]
          omega
        by_cases hdot : (parseL x).isSome = true ∧ last = true ∧ k + 1 = m
        · obtain ⟨hd1, hd2, hd3⟩ := hdot
          rw [decide_eq_true hd3] at hlast
          obtain ⟨v, hv⟩ := Option.isSome_iff_exists.1 hd1
          have hvb := (parseL_some hv).1
          have hnil := HRE.out.2 hd3
          subst hd2
          have HY : Hid (G = some (acc ++ [v / 65536, v % 65536])) := by
            show _ = _
            rw [HX.out, hnil, grpGo_one, if_pos rfl, hv]; rfl
          rw [hv, show aV (some v) = (v : Int) from rfl, show aK (some v) = true from rfl] at c1
          obtain ⟨v0, hv0⟩ : ∃ q : Nat, q = v / 65536 := ⟨_, rfl⟩
          obtain ⟨v1, hv1⟩ : ∃ q : Nat, q = v % 65536 := ⟨_, rfl⟩
          have hv0i : (v : Int) / 65536 = (v0 : Int) := by omega
          have hv1i : (v : Int) % 65536 = (v1 : Int) := by omega
          have hv1w : IntKind.u16.wrap (v : Int) = (v1 : Int) := by rw [IntKind.wrap_u16]; omega
          have hv0b : v0 < 65536 := by omega
          have hv1b : v1 < 65536 := by omega
          have HY2 : Hid (G = some (acc ++ [v0, v1])) := by rw [hv0, hv1]; exact HY
          clear hd1 hv HY hv0 hv1 hnil c2
          go_wp2_with (first
            | (go_at_call 32
               refine (c1 _).mono ?_
               rintro e w3 ⟨rfl, hb3⟩
               have hown3 := own_below hown hb3
               have hb23 := hb2.trans (hb3.mono hb2.size)
               have hbA := hb23.alloc hb23.size (.cells #[.int .u16 (v0 : Int), .int .u16 (v1 : Int)] 22)
               have hownA := hown3.alloc (.cells #[.int .u16 (v0 : Int), .int .u16 (v1 : Int)] 22)
               have hhA := Has.laid w3 22 #[.int .u16 (v0 : Int), .int .u16 (v1 : Int)] (0, 0) 2 _ rfl rfl
               clear c1)
            | (at_builtin; refine wpList_app_has _ rfl _ _ 47 rfl w1.heap.size 22 i16 (.int .u16 0) 2 tyU16s hi16 hz0 hz1 hz2 rfl _ _ _ (by exact rfl) hownA _ 2 2 _ (uv [v0, v1]) (by exact rfl) (by intro e; cases e) hhA (uv_one _) (by unfold maxLen; omega) (by omega) hbA (Nat.le_refl _) ?_; intro v' w' hown' hb' _))
          go_roundw
          case rel =>
            rw [uv_append] at hown'
            refine ⟨k + 1, acc ++ [v0, v1], by omega, by go_num, by simp; omega, Lib.hid ?_, by simpa using hown', hb'⟩
            rw [HY2.out, HRE.out.2 hd3]
            simp [grpGo]
          case measure => simp [intOf]; omega
        · have hdot' : ¬ ((parseL x).isSome = true ∧ last = true ∧ P.drop (k + 1) = []) := fun h => hdot ⟨h.1, h.2.1, HRE.out.1 h.2.2⟩
          cases hx : hexL x with
          | none =>
            have HY : Hid (G = none) := by show _ = _; rw [HX.out, grp_hex_none hdot' hx]; rfl
            have e1 : hV x = 0 ∧ hK x = false := by unfold hV hK; rw [hx]; exact ⟨rfl, rfl⟩
            rw [e1.1, e1.2] at c2
            clear hx e1
            cases hp : parseL x with
            | none =>
              rw [hp, show aK (none : Option Nat) = false from rfl] at c1
              generalize aV (none : Option Nat) = y at *
              clear hp hdot hdot'
              go_wp2_with (first | (go_at_call 32; refine (c1 _).mono ?_; rintro e w3 ⟨rfl, hb3⟩; have hc3 := (hb3.cell (p := ⟨b, off + k, none⟩) (cell_lt6 hcell)).trans hcell) | (go_at_call 33; refine (c2 _).mono ?_; rintro e w' ⟨rfl, rfl⟩))
              go_ret2
              exact GrpPost.no HY.out (hb.trans ((hb2.trans (hb3.mono hb2.size)).mono hb.size))
            | some v =>
              rw [hp, show aK (some v) = true from rfl] at c1
              generalize aV (some v) = y at *
              cases last with
              | false =>
                clear hp hdot hdot'
                go_wp2_with (first | (go_at_call 32; refine (c1 _).mono ?_; rintro e w3 ⟨rfl, hb3⟩; have hc3 := (hb3.cell (p := ⟨b, off + k, none⟩) (cell_lt6 hcell)).trans hcell) | (go_at_call 33; refine (c2 _).mono ?_; rintro e w' ⟨rfl, rfl⟩))
                go_ret2
                exact GrpPost.no HY.out (hb.trans ((hb2.trans (hb3.mono hb2.size)).mono hb.size))
              | true =>
                have hnl : ¬ k + 1 = m := fun h => hdot ⟨by rw [hp]; rfl, rfl, h⟩
                rw [decide_eq_false hnl] at hlast
                clear hp hdot hdot' hnl
                go_wp2_with (first | (go_at_call 32; refine (c1 _).mono ?_; rintro e w3 ⟨rfl, hb3⟩; have hc3 := (hb3.cell (p := ⟨b, off + k, none⟩) (cell_lt6 hcell)).trans hcell) | (go_at_call 33; refine (c2 _).mono ?_; rintro e w' ⟨rfl, rfl⟩))
                go_ret2
                exact GrpPost.no HY.out (hb.trans ((hb2.trans (hb3.mono hb2.size)).mono hb.size))
          | some g =>
            have HY : Hid (G = (grpGo (P.drop (k + 1)) last).map ((acc ++ [g]) ++ ·)) := by
              show _ = _
              rw [HX.out, grp_hex_some hdot' hx]
              cases grpGo (P.drop (k + 1)) last <;> simp
            have hgr := hV_range x
            have e1 : hV x = (g : Int) ∧ hK x = true := by unfold hV hK; rw [hx]; exact ⟨rfl, rfl⟩
            rw [e1.1, e1.2] at c2
            rw [e1.1] at hgr
            have hgb : g < 65536 := by omega
            clear hx e1 hgr
            cases hp : parseL x with
            | none =>
              rw [hp, show aK (none : Option Nat) = false from rfl] at c1
              generalize aV (none : Option Nat) = y at *
              clear hp hdot hdot'
              go_wp2_with (first | (go_at_call 32; refine (c1 _).mono ?_; rintro e w3 ⟨rfl, hb3⟩; have hc3 := (hb3.cell (p := ⟨b, off + k, none⟩) (cell_lt6 hcell)).trans hcell; have hown3 := own_below hown hb3; have hb23 := hb2.trans (hb3.mono hb2.size)) | (go_at_call 33; refine (c2 _).mono ?_; rintro e w' ⟨rfl, rfl⟩) | (at_builtin; refine wpList_app_one _ rfl _ _ 47 rfl w1.heap.size 22 i16 (.int .u16 0) 2 tyU16s hi16 hz0 hz1 hz2 rfl _ (by exact rfl) _ _ _ (by exact rfl) hown3 (by exact rfl) (by unfold maxLen; omega) (by omega) hb23 (Nat.le_refl _) ?_; intro v' w' hown' hb' _))
              go_roundw
              case rel =>
                have e := uv_append acc [g]
                rw [show uv [g] = [.int .u16 (g : Int)] from rfl] at e
                rw [e] at hown'
                exact ⟨k + 1, acc ++ [g], by omega, by go_num, by simp; omega, HY, by simpa using hown', hb'⟩
              case measure => simp [intOf]; omega
            | some v =>
              rw [hp, show aK (some v) = true from rfl] at c1
              generalize aV (some v) = y at *
              cases last with
              | false =>
                clear hp hdot hdot'
                go_wp2_with (first | (go_at_call 32; refine (c1 _).mono ?_; rintro e w3 ⟨rfl, hb3⟩; have hc3 := (hb3.cell (p := ⟨b, off + k, none⟩) (cell_lt6 hcell)).trans hcell; have hown3 := own_below hown hb3; have hb23 := hb2.trans (hb3.mono hb2.size)) | (go_at_call 33; refine (c2 _).mono ?_; rintro e w' ⟨rfl, rfl⟩) | (at_builtin; refine wpList_app_one _ rfl _ _ 47 rfl w1.heap.size 22 i16 (.int .u16 0) 2 tyU16s hi16 hz0 hz1 hz2 rfl _ (by exact rfl) _ _ _ (by exact rfl) hown3 (by exact rfl) (by unfold maxLen; omega) (by omega) hb23 (Nat.le_refl _) ?_; intro v' w' hown' hb' _))
                go_roundw
                case rel =>
                  have e := uv_append acc [g]
                  rw [show uv [g] = [.int .u16 (g : Int)] from rfl] at e
                  rw [e] at hown'
                  exact ⟨k + 1, acc ++ [g], by omega, by go_num, by simp; omega, HY, by simpa using hown', hb'⟩
                case measure => simp [intOf]; omega
              | true =>
                have hnl : ¬ k + 1 = m := fun h => hdot ⟨by rw [hp]; rfl, rfl, h⟩
                rw [decide_eq_false hnl] at hlast
                clear hp hdot hdot' hnl
                go_wp2_with (first | (go_at_call 32; refine (c1 _).mono ?_; rintro e w3 ⟨rfl, hb3⟩; have hc3 := (hb3.cell (p := ⟨b, off + k, none⟩) (cell_lt6 hcell)).trans hcell; have hown3 := own_below hown hb3; have hb23 := hb2.trans (hb3.mono hb2.size)) | (go_at_call 33; refine (c2 _).mono ?_; rintro e w' ⟨rfl, rfl⟩) | (at_builtin; refine wpList_app_one _ rfl _ _ 47 rfl w1.heap.size 22 i16 (.int .u16 0) 2 tyU16s hi16 hz0 hz1 hz2 rfl _ (by exact rfl) _ _ _ (by exact rfl) hown3 (by exact rfl) (by unfold maxLen; omega) (by omega) hb23 (Nat.le_refl _) ?_; intro v' w' hown' hb' _))
                go_roundw
                case rel =>
                  have e := uv_append acc [g]
                  rw [show uv [g] = [.int .u16 (g : Int)] from rfl] at e
                  rw [e] at hown'
                  exact ⟨k + 1, acc ++ [g], by omega, by go_num, by simp; omega, HY, by simpa using hown', hb'⟩
                case measure => simp [intOf]; omega
      · obtain rfl : k = m := by omega
        have HY : Hid (G = some acc) := by
          show _ = _
          rw [HR.out, List.drop_of_length_le (by rw [← HM.out]; exact Nat.le_refl _)]
          simp [grpGo]
        go_wp2
        go_ret2
        rw [HY.out]
        exact ⟨_, rfl, own_low6 hown hb.size, hb.trans (hb2.mono hb.size)⟩

end Go.Proofs.YthihfhmclmmadaaDoor
