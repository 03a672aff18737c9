/-
Contract of Split of the reference of layer 1.
Contracts of decimal and Parse of the reference of layer 10.
Contract of groups of the reference of layer 11 (written by tools/gen-I62.py).
-/
import Derived.Test.YtpccpgihldpiiaaGreatDoorC07
import Derived.Test.YtpccpgihldpiiaaGreatDoorC02
import Derived.Test.YtpccpgihldpiiaaGreatDoorC03
import Derived.Lib.AppendStr
namespace Go.Proofs.YtpccpgihldpiiaaGreatDoor
section
open Go.RowKit

/-- A list of strings that the call has made. -/
def ListPost (l : List (List UInt8)) (w : World) (e : Ending) (w' : World) : Prop :=
  ∃ v n, e = .returned v ∧ w'.ownsRow w.heap.size 9 1 v n (wv l) ∧ Below w.heap.size w w'
def SplitAt (c : UInt8) (s : ByteArray) (acc : List (List UInt8)) (cur : List UInt8) (i : Nat) : Prop := acc ++ splitG c ((ls s).drop i) cur = splitL c (ls s)
theorem splitAt_start (c : UInt8) (s : ByteArray) : SplitAt c s [] [] 0 := rfl
theorem drop_ls (s : ByteArray) (i : Nat) (h : i < s.size) : (ls s).drop i = s[i] :: (ls s).drop (i + 1) := by
  rw [List.drop_eq_getElem_cons (by rw [ls_length]; exact h), ls_getE s i h]
  rfl
theorem splitAt_byte {c : UInt8} {s : ByteArray} {acc cur} {i : Nat} (h : SplitAt c s acc cur i) (hi : i < s.size) (hb : s[i] ≠ c) : SplitAt c s acc (cur ++ [s[i]]) (i + 1) := by
  unfold SplitAt at h ⊢
  rw [drop_ls s i hi, splitG, if_neg hb] at h
  exact h
theorem splitAt_dot {c : UInt8} {s : ByteArray} {acc cur} {i : Nat} (h : SplitAt c s acc cur i) (hi : i < s.size) (hb : s[i] = c) : SplitAt c s (acc ++ [cur]) [] (i + 1) := by
  unfold SplitAt at h ⊢
  rw [drop_ls s i hi, splitG, if_pos hb] at h
  rw [List.append_assoc]
  exact h
theorem splitAt_end {c : UInt8} {s : ByteArray} {acc cur} (h : SplitAt c s acc cur s.size) : acc ++ [cur] = splitL c (ls s) := by
  unfold SplitAt at h
  rw [drop_ls_all, splitG] at h
  exact h

set_option maxRecDepth 20000 in
set_option maxHeartbeats 2000000 in
theorem refSplit_any (s : ByteArray) (c : UInt8) (w : World) (hs : s.size ≤ 1000000000) :
    Calls Tryz.prog 55 #[.string s, .int .u8 (c.toNat : Int)] w (ListPost (splitL c (ls s)) w) := by
  obtain ⟨i9, hi9, hz0, hz1, hz2⟩ := info_parts infoStr
  obtain ⟨cv, hcv⟩ : ∃ x : Int, x = (c.toNat : Int) := ⟨_, rfl⟩
  have HC := Lib.hid hcv
  rw [← hcv]
  clear hcv
  go_enter Tryz.func55, Tryz.ntmps55
  go_wp2
  go_loopw [5, 6, 7] (fun v f i wr => ∃ (k m : Nat) (acc : List (List UInt8)), m ≤ k ∧ k ≤ s.size + 1 ∧ acc.length ≤ k ∧ i = .int .i64 k ∧ f = .int .i64 m ∧ Hid (k ≤ s.size → SplitAt c s acc (sub s m k) k) ∧ Hid (s.size < k → acc = splitL c (ls s)) ∧
      wr.ownsRow w.heap.size 9 1 v acc.length (wv acc) ∧ Below w.heap.size w wr) (fun _ _ i _ => s.size + 1 - (intOf i).toNat)
  case atStart => exact ⟨0, 0, [], Nat.le_refl _, by omega, Nat.le_refl _, rfl, rfl, Lib.hid (fun _ => by rw [sub_self]; exact splitAt_start c s), Lib.hid (fun h => by omega), World.ownsRow_nil _ _ _ _, Below.refl _ _⟩
  case round =>
    obtain ⟨k, m, acc, hmk, hk, hal, rfl, rfl, HAT, HEND, hown, hb⟩ := hrel
    by_cases hlt : k < s.size
    · by_cases hsp : s[k] = c
      · have hq : ((s[k].toNat : Int) == cv) = true := by rw [HC.out, hsp]; simp
        have HSP := Lib.hid hsp
        clear hsp
        go_wp2_with (at_builtin; refine wpList_app_one _ rfl _ _ 35 rfl w.heap.size 9 i9 (.string ByteArray.empty) 16 tyStrs hi9 hz0 hz1 hz2 rfl _ (by exact rfl) _ _ _ (by exact rfl) hown (by exact rfl) (by unfold maxLen; omega) (by omega) hb (Nat.le_refl _) ?_; intro v' w' hown' hb' _)
        go_roundw
        case rel =>
          refine ⟨k + 1, k + 1, acc ++ [sub s m k], Nat.le_refl _, by omega, by simp; omega, by go_num, by go_num, Lib.hid (fun _ => ?_), Lib.hid (fun h => by omega), ?_, hb'⟩
          · rw [sub_self]; exact splitAt_dot (HAT.out (by omega)) hlt HSP.out
          · rw [← wv_snoc, ← sub_extract]; simpa using hown'
        case measure => simp [intOf]; omega
      · have hq : ((s[k].toNat : Int) == cv) = false := by
          rw [HC.out, beq_eq_false_iff_ne]
          exact fun e => hsp (UInt8.toNat_inj.1 (by omega))
        have HSP : Hid (s[k] ≠ c) := Lib.hid hsp
        clear hsp
        go_wp2
        go_roundw
        case rel =>
          refine ⟨k + 1, m, acc, by omega, by omega, by omega, by go_num, rfl, Lib.hid (fun _ => ?_), Lib.hid (fun h => by omega), hown, hb⟩
          rw [sub_succ s m k hmk hlt]; exact splitAt_byte (HAT.out (by omega)) hlt HSP.out
        case measure => simp [intOf]; omega
    · by_cases hle : k ≤ s.size
      · obtain rfl : k = s.size := by omega
        go_wp2_with (at_builtin; refine wpList_app_one _ rfl _ _ 35 rfl w.heap.size 9 i9 (.string ByteArray.empty) 16 tyStrs hi9 hz0 hz1 hz2 rfl _ (by exact rfl) _ _ _ (by exact rfl) hown (by exact rfl) (by unfold maxLen; omega) (by omega) hb (Nat.le_refl _) ?_; intro v' w' hown' hb' _)
        go_roundw
        case rel =>
          refine ⟨s.size + 1, s.size + 1, acc ++ [sub s m s.size], Nat.le_refl _, by omega, by simp; omega, by go_num, by go_num, Lib.hid (fun h => by omega), Lib.hid (fun _ => splitAt_end (HAT.out (Nat.le_refl _))), ?_, hb'⟩
          rw [← wv_snoc, ← sub_extract]; simpa using hown'
        case measure => simp [intOf]
      · obtain rfl : k = s.size + 1 := by omega
        have HE : Hid (acc = splitL c (ls s)) := Lib.hid (HEND.out (by omega))
        go_wp2
        go_ret
        exact ⟨_, _, rfl, by rw [← HE.out]; exact hown, hb⟩
end

section
open Go.RowKit

def dV (l : List UInt8) : Int := ((decV l).getD 0 : Nat)
def dK (l : List UInt8) : Bool := (decV l).isSome
theorem dec_yes {l : List UInt8} {k : Nat} (h : Lib.decDigits k = l) (hk : k < 256) : dV l = (k : Int) ∧ dK l = true := by
  unfold dV dK
  rw [← h, decV_dec k hk]
  exact ⟨rfl, rfl⟩
theorem dec_no {l : List UInt8} (h : ∀ k, k < 256 → Lib.decDigits k ≠ l) : dV l = 0 ∧ dK l = false := by
  have e : decV l = none := by
    cases hx : decV l with
    | none => rfl
    | some n =>
      have := decV_some hx
      exact absurd this.2.symm (h n this.1)
  unfold dV dK
  rw [e]
  exact ⟨rfl, rfl⟩
theorem dV_range (l : List UInt8) : 0 ≤ dV l ∧ dV l ≤ 255 := by
  unfold dV
  cases hx : decV l with
  | none => exact ⟨by simp, by simp⟩
  | some n => have := (decV_some hx).1; simp only [Option.getD_some]; omega

set_option maxRecDepth 20000 in
set_option maxHeartbeats 1000000 in
theorem refDecimal_any (s : ByteArray) (w : World) :
    Calls Tryz.prog 170 #[.string s] w fun e w' => e = .returned (.tuple #[.int .i64 (dV (ls s)), .bool (dK (ls s))]) ∧ Below w.heap.size w w' := by
  go_enter Tryz.func170, Tryz.ntmps170
  go_wp2
  go_loopw [4] (fun i wr => ∃ k : Nat, k ≤ 256 ∧ i = .int .i64 k ∧ Hid (∀ j, j < k → Lib.decDigits j ≠ ls s) ∧ Below w.heap.size w wr) (fun i _ => 256 - (intOf i).toNat)
  case atStart => exact ⟨0, Nat.zero_le _, rfl, Lib.hid (fun j h => by omega), Below.refl _ _⟩
  case round =>
    obtain ⟨k, hk, rfl, HN, hb⟩ := hrel
    by_cases hlt : k < 256
    · have c1 := refFromInt_any (k : Int) (by omega) (by omega)
      have HD : Hid (ls (bs (Lib.decDigits (k : Int).toNat)) = Lib.decDigits k) := by show _ = _; rw [ls_bs]; rfl
      generalize bs (Lib.decDigits (k : Int).toNat) = D at *
      by_cases he : D = s
      · have hq : (D.toList == s.toList) = true := by rw [he]; simp
        have HY := Lib.hid (dec_yes (l := ls s) (k := k) (by rw [← HD.out, he]) hlt)
        clear he
        go_wp2_with (go_at_call 111; refine (c1 _).mono ?_; rintro e w1 ⟨rfl, hb1⟩)
        go_ret2
        exact ⟨by rw [HY.out.1, HY.out.2]; rfl, hb.trans (hb1.mono hb.size)⟩
      · have hq : (D.toList == s.toList) = false := by
          rw [beq_eq_false_iff_ne, toList_ls, toList_ls]
          exact fun e => he (ls_inj e)
        have HY : Hid (Lib.decDigits k ≠ ls s) := Lib.hid (by rw [← HD.out]; exact fun e => he (ls_inj e))
        clear he
        go_wp2_with (go_at_call 111; refine (c1 _).mono ?_; rintro e w1 ⟨rfl, hb1⟩)
        go_roundw
        case rel =>
          refine ⟨k + 1, by omega, by go_num, Lib.hid (fun j h => ?_), hb.trans (hb1.mono hb.size)⟩
          rcases Nat.lt_or_ge j k with h1 | h1
          · exact HN.out j h1
          · obtain rfl : j = k := by omega
            exact HY.out
        case measure => simp [intOf]; omega
    · obtain rfl : k = 256 := by omega
      have HY := Lib.hid (dec_no HN.out)
      go_wp2
      go_ret2
      exact ⟨by rw [HY.out.1, HY.out.2]; rfl, hb⟩

/-- The numbers of parts, one after another. -/
def decF : List (List UInt8) → Nat → Option Nat
  | [], v => some v
  | x :: r, v => match decV x with
    | none => none
    | some n => decF r (v * 256 + n)
theorem parseL_decF (l : List UInt8) : parseL l = if (splitL 46 l).length = 4 then decF (splitL 46 l) 0 else none := by
  unfold parseL four
  generalize splitL 46 l = p
  match p with
  | [] => rfl
  | [_] => rfl
  | [_, _] => rfl
  | [_, _, _] => rfl
  | [a, b, c, d] =>
    simp only [decF, List.length_cons, List.length_nil]
    cases decV a <;> cases decV b <;> cases decV c <;> cases decV d <;> simp
  | _ :: _ :: _ :: _ :: _ :: _ => simp
/-- The address, and whether there is one. -/
def aV (o : Option Nat) : Int := (o.getD 0 : Nat)
def aK (o : Option Nat) : Bool := o.isSome

set_option maxHeartbeats 1000000 in
theorem refParse_any (s : ByteArray) (w : World) (hs : s.size ≤ 1000000000) :
    Calls Tryz.prog 128 #[.string s] w fun e w' => e = .returned (.tuple #[.int .u32 (aV (parseL (ls s))), .bool (aK (parseL (ls s)))]) ∧ Below w.heap.size w w' := by
  have hspl := refSplit_any s 46 w hs
  have hlen := splitL_length 46 (ls s)
  rw [ls_length] at hlen
  have HP := Lib.hid (parseL_decF (ls s))
  generalize splitL 46 (ls s) = P at *
  obtain ⟨n, hn⟩ : ∃ n, n = P.length := ⟨_, rfl⟩
  go_enter Tryz.func128, Tryz.ntmps128
  go_wp2_with fail
  refine hspl.mono ?_
  rintro e w1 ⟨v, m, rfl, hown, hb⟩
  obtain ⟨A, c, rfl, hh, hmc⟩ := Has.of_own hown
  obtain rfl : m = n := by have := hh.1; rw [wv_length] at this; omega
  clear hspl hown
  by_cases h4 : m = 4
  · subst h4
    have HF : Hid (parseL (ls s) = decF P 0) := by show _ = _; rw [HP.out, if_pos hn.symm]
    have HN := Lib.hid hn
    obtain ⟨b, off, rfl, _⟩ := str_cell hh 0 (by omega)
    have HH := Lib.hid hh
    clear hn hh HP
    go_wp2
    go_loopw [5, 6] (fun v i wr => ∃ (k : Nat) (z : Int), k ≤ 4 ∧ i = .int .i64 k ∧ v = .int .u32 z ∧ 0 ≤ z ∧ Hid (z < 256 ^ k) ∧ Hid (decF (P.drop k) z.toNat = parseL (ls s)) ∧ Below w1.heap.size w1 wr) (fun _ i _ => 4 - (intOf i).toNat)
    case atStart => exact ⟨0, 0, Nat.zero_le _, rfl, rfl, by omega, Lib.hid (by decide), Lib.hid HF.out.symm, Below.refl _ _⟩
    case round =>
      obtain ⟨k, z, hk, rfl, rfl, hz0, HZ, HR, hb2⟩ := hrel
      by_cases hlt : k < 4
      · obtain ⟨b', off', e, hcell⟩ := str_cell (HH.out.below hb2) k hlt
        injection e with e
        injection e with e1 e2 _
        subst e1 e2
        have c1 := refDecimal_any (bs (P.getD k []))
        rw [ls_bs] at c1
        have hdr : P.drop k = P.getD k [] :: P.drop (k + 1) := by
          have hk' : k < P.length := by rw [← HN.out]; exact hlt
          rw [List.drop_eq_getElem_cons hk', List.getD_eq_getElem?_getD, List.getElem?_eq_getElem hk', Option.getD_some]
        have HR2 := HR.out
        rw [hdr, decF] at HR2
        have hrng := dV_range (P.getD k [])
        generalize P.getD k [] = x at *
        have HX := Lib.hid HR2
        clear HR2 hdr HR
        cases hx : decV x with
        | none =>
          have e1 : dV x = 0 ∧ dK x = false := by unfold dV dK; rw [hx]; exact ⟨rfl, rfl⟩
          have HQ : Hid (parseL (ls s) = none) := by show _ = _; have := HX.out; rw [hx] at this; exact this.symm
          rw [e1.1, e1.2] at c1
          clear hx e1 hrng
          go_wp2_with (go_at_call 170; refine (c1 _).mono ?_; rintro e w3 ⟨rfl, hb3⟩)
          go_ret2
          exact ⟨by rw [HQ.out]; rfl, hb.trans ((hb2.trans (hb3.mono hb2.size)).mono hb.size)⟩
        | some d =>
          have e1 : dV x = (d : Int) ∧ dK x = true := by unfold dV dK; rw [hx]; exact ⟨rfl, rfl⟩
          have HQ : Hid (decF (P.drop (k + 1)) (z.toNat * 256 + d) = parseL (ls s)) := by show _ = _; have := HX.out; rw [hx] at this; exact this
          rw [e1.1, e1.2] at c1
          rw [e1.1] at hrng
          obtain ⟨dv, hdv⟩ : ∃ v : Int, v = (d : Int) := ⟨_, rfl⟩
          rw [← hdv] at c1 hrng
          have HZ3 : z ≤ 16777215 := by
            have h1 := HZ.out
            have h2 : (256 : Int) ^ k ≤ 256 ^ 3 := by
              have : k = 0 ∨ k = 1 ∨ k = 2 ∨ k = 3 := by omega
              rcases this with rfl | rfl | rfl | rfl <;> decide
            have h3 : (256 : Int) ^ 3 = 16777216 := by decide
            omega
          have HZN : Hid (z * 256 + dv < 256 ^ (k + 1)) := by
            show _ < _
            have h1 := HZ.out
            rw [Int.pow_succ]
            omega
          have HQ2 : Hid (decF (P.drop (k + 1)) (z * 256 + dv).toNat = parseL (ls s)) := by
            show _ = _
            rw [← HQ.out]
            congr 1
            omega
          obtain ⟨hr0, hr1⟩ := hrng
          clear hx e1 hdv
          go_wp2_with (go_at_call 170; refine (c1 _).mono ?_; rintro e w3 ⟨rfl, hb3⟩)
          go_roundw
          case rel => exact ⟨k + 1, z * 256 + dv, by omega, by go_num, by first | rfl | go_num, by omega, HZN, HQ2, hb2.trans (hb3.mono hb2.size)⟩
          case measure => simp [intOf]; omega
      · obtain rfl : k = 4 := by omega
        have HQ : Hid (parseL (ls s) = some z.toNat) := by
          show _ = _
          have h := HR.out
          have hd : P.drop 4 = [] := List.drop_of_length_le (by rw [← HN.out]; omega)
          rw [hd, decF] at h
          exact h.symm
        have HZZ : Hid ((z.toNat : Int) = z) := Lib.hid (by omega)
        go_wp2
        go_ret2
        refine ⟨?_, hb.trans (hb2.mono hb.size)⟩
        rw [HQ.out]
        unfold aV aK
        rw [Option.getD_some, HZZ.out]
        rfl
  · have hne : ((m : Int) != 4) = true := by simp; omega
    have HQ : Hid (parseL (ls s) = none) := by show _ = _; rw [HP.out, if_neg (by omega)]
    clear hn hh h4
    go_wp2
    go_ret2
    exact ⟨by rw [HQ.out]; rfl, hb⟩
end

section
open Go.RowKit

theorem tyU16s : Tryz.prog.underlying 79 = some (.slice 24) := by kernel_rfl
theorem tyU16 : Tryz.prog.underlying 24 = some (.int .u16) := by kernel_rfl
theorem infoU16 : (Tryz.prog.info? 24).map (fun i => (i.zero, i.size, i.bytes)) = some (some (.int .u16 0), 1, 2) := by kernel_rfl
theorem sizeU16 : (Tryz.prog.info? 24).map (·.size) = some 1 := by kernel_rfl
/-- Groups as values. -/
def uv (g : List Nat) : List Value := g.map fun (x : Nat) => .int .u16 (x : Int)
theorem uv_length (g : List Nat) : (uv g).length = g.length := by simp [uv]
theorem uv_append (g h : List Nat) : uv g ++ uv h = uv (g ++ h) := by simp [uv]
theorem uv_one (g : List Nat) : ∀ v ∈ uv g, v.oneCell' = true := by
  intro v hv
  obtain ⟨x, _, rfl⟩ := List.mem_map.1 hv
  rfl
theorem uv_cell {w : World} {B n : Nat} {A : Option Addr} {g : List Nat} (h : Has w B A n (uv g)) (k : Nat) (hk : k < n) : ∃ b off, A = some ⟨b, off, none⟩ ∧ w.cell? ⟨b, off + k, none⟩ = some (.int .u16 ((g.getD k 0 : Nat) : Int)) := by
  have hl : (uv g).length = n := h.1
  rw [uv_length] at hl
  obtain ⟨b, off, e, _, hc⟩ := h.at_ hk
  refine ⟨b, off, e, ?_⟩
  rw [hc, List.getD_eq_getElem?_getD, List.getElem?_eq_getElem (by omega), Option.getD_some]
  simp [uv]
/-- The groups of a string, as the reference answers them. -/
def GrpPost (o : Option (List Nat)) (w : World) (e : Ending) (w' : World) : Prop :=
  ∃ v, e = .returned (.tuple #[v, .bool o.isSome]) ∧ w'.ownsRow w.heap.size 24 1 v (o.getD []).length (uv (o.getD [])) ∧ Below w.heap.size w w'
theorem GrpPost.no {o : Option (List Nat)} {w w' : World} (h : o = none) (hb : Below w.heap.size w w') : GrpPost o w (.returned (.tuple #[.slice none 0 0, .bool false])) w' := by
  subst h
  exact ⟨_, rfl, World.ownsRow_nil _ _ _ _, hb⟩
theorem own_low6 {w : World} {b b' e n : Nat} {v : Value} {xs : List Value} (h : w.ownsRow b e 1 v n xs) (hb : b' ≤ b) : w.ownsRow b' e 1 v n xs := by
  refine ⟨h.1, ?_⟩
  rcases h.2 with h0 | ⟨g, cap, cur, h1, h2, h3⟩
  · exact .inl h0
  · exact .inr ⟨g, cap, cur, h1, by omega, h3⟩

theorem cell_lt6 {w : World} {b j : Nat} {v : Value} (h : w.cell? ⟨b, j, none⟩ = some v) : b < w.heap.size := by
  rcases Nat.lt_or_ge b w.heap.size with h1 | h1
  · exact h1
  · have : w.heap[b]? = none := by rw [Array.getElem?_eq_none_iff]; exact h1
    simp [World.cell?, this] at h
theorem grpGo_one (x : List UInt8) (last : Bool) : grpGo [x] last = match (if last then parseL x else none) with
    | some v => some [v / 65536, v % 65536]
    | none => match hexL x with
      | some g => some [g]
      | none => none := rfl
theorem grp_hex_some {x : List UInt8} {rest : List (List UInt8)} {last : Bool} {g : Nat} (h : ¬ ((parseL x).isSome = true ∧ last = true ∧ rest = [])) (hg : hexL x = some g) : grpGo (x :: rest) last = (grpGo rest last).map (g :: ·) := by
  cases rest with
  | nil =>
    rw [grpGo_one]
    have : (if last = true then parseL x else none) = none := by
      cases last with
      | false => rfl
      | true => cases hp : parseL x with
        | none => rfl
        | some v => exact absurd ⟨by rw [hp]; rfl, rfl, rfl⟩ h
    rw [this, hg]; rfl
  | cons y r =>
    rw [grpGo, hg]
    cases grpGo (y :: r) last <;> rfl
theorem grp_hex_none {x : List UInt8} {rest : List (List UInt8)} {last : Bool} (h : ¬ ((parseL x).isSome = true ∧ last = true ∧ rest = [])) (hg : hexL x = none) : grpGo (x :: rest) last = none := by
  cases rest with
  | nil =>
    rw [grpGo_one]
    have : (if last = true then parseL x else none) = none := by
      cases last with
      | false => rfl
      | true => cases hp : parseL x with
        | none => rfl
        | some v => exact absurd ⟨by rw [hp]; rfl, rfl, rfl⟩ h
    rw [this, hg]
  | cons y r => rw [grpGo, hg]
theorem splitG_sizes6 (c : UInt8) : ∀ l cur, ∀ x ∈ splitG c l cur, x.length ≤ l.length + cur.length
  | [], cur, x, hx => by simp [splitG] at hx; subst hx; simp
  | b :: r, cur, x, hx => by
    unfold splitG at hx
    split at hx
    · rcases List.mem_cons.1 hx with h | h
      · subst h; simp
      · have := splitG_sizes6 c r [] x h; simp at this ⊢; omega
    · have := splitG_sizes6 c r (cur ++ [b]) x hx; simp at this ⊢; omega

set_option maxRecDepth 20000 in
set_option maxHeartbeats 4000000 in
theorem refGroups_any (s : ByteArray) (last : Bool) (w : World) (hs : s.size ≤ 1000000000) :
    Calls Tryz.prog 88 #[.string s, .bool last] w (GrpPost (groupsL (ls s) last) w) := by
  by_cases h0 : s.size = 0
  · have hnil : ls s = [] := List.eq_nil_of_length_eq_zero (by rw [ls_length]; exact h0)
    have hbe : (s.toList == ([] : List UInt8)) = true := by rw [toList_ls, hnil]; rfl
    have HG : Hid (groupsL (ls s) last = some []) := by rw [hnil]; exact Lib.hid rfl
    clear h0 hnil
    go_enter Tryz.func88, Tryz.ntmps88
    go_wp2
    go_ret2
    rw [HG.out]
    exact ⟨_, rfl, World.ownsRow_nil _ _ _ _, Below.refl _ _⟩
  · have hne : ls s ≠ [] := by intro e; have := ls_length s; rw [e] at this; simp at this; omega
    have hbe : (s.toList == ([] : List UInt8)) = false := by rw [toList_ls]; cases hx : ls s with
      | nil => exact absurd hx hne
      | cons c r => rfl
    have HG : Hid (groupsL (ls s) last = grpGo (splitL 58 (ls s)) last) := by show _ = _; unfold groupsL; rw [if_neg hne]
    have hspl := refSplit_any s 58 w hs
    have hlen := splitL_length 58 (ls s)
    have hszs : ∀ x ∈ splitL 58 (ls s), x.length ≤ 1000000000 := fun x hx => by have := splitG_sizes6 58 (ls s) [] x hx; rw [ls_length] at this; simp at this; omega
    rw [ls_length] at hlen
    have hpos := splitL_pos 58 (ls s)
    generalize splitL 58 (ls s) = P at *
    generalize groupsL (ls s) last = G at *
    obtain ⟨i16, hi16, hz0, hz1, hz2⟩ := info_parts infoU16
    obtain ⟨n, hn⟩ : ∃ n, n = P.length := ⟨_, rfl⟩
    clear h0 hne
    go_enter Tryz.func88, Tryz.ntmps88
    go_wp2_with fail
    refine hspl.mono ?_
    rintro e w1 ⟨v, m, rfl, hown, hb⟩
    obtain ⟨A, c, rfl, hh, hmc⟩ := Has.of_own hown
    obtain rfl : m = n := by have := hh.1; rw [wv_length] at this; omega
    clear hspl hown
    obtain ⟨b, off, rfl, _⟩ := str_cell hh 0 (by omega)
    have HH := Lib.hid hh
    have HM := Lib.hid hn
    have HSZ := Lib.hid hszs
    have hmb : m ≤ 1000000001 := by omega
    clear hn hh hszs hpos
    go_wp2
    go_loopw [6, 8] (fun v i wr => ∃ (k : Nat) (acc : List Nat), k ≤ m ∧ i = .int .i64 k ∧ acc.length ≤ 2 * k ∧ Hid (G = (grpGo (P.drop k) last).map (acc ++ ·)) ∧ wr.ownsRow w1.heap.size 24 1 v acc.length (uv acc) ∧ Below w1.heap.size w1 wr) (fun _ i _ => m - (intOf i).toNat)
    case atStart => exact ⟨0, [], Nat.zero_le _, rfl, by simp, Lib.hid (by rw [HG.out]; simp), World.ownsRow_nil _ _ _ _, Below.refl _ _⟩
    case round =>
      obtain ⟨k, acc, hk, rfl, hal, HR, hown, hb2⟩ := hrel
      by_cases hlt : k < m
      · obtain ⟨b', off', e, hcell⟩ := str_cell (HH.out.below hb2) k hlt
        injection e with e
        injection e with e1 e2 _
        subst e1 e2
        have hkP : k < P.length := by rw [← HM.out]; exact hlt
        have hdr : P.drop k = P.getD k [] :: P.drop (k + 1) := by
          rw [List.drop_eq_getElem_cons hkP, List.getD_eq_getElem?_getD, List.getElem?_eq_getElem hkP, Option.getD_some]
        have hxs : (P.getD k []).length ≤ 1000000000 := HSZ.out _ (by rw [List.getD_eq_getElem?_getD, List.getElem?_eq_getElem hkP, Option.getD_some]; exact List.getElem_mem hkP)
        have HR2 := HR.out
        rw [hdr] at HR2
        have hrest : P.drop (k + 1) = [] ↔ k + 1 = m := by
          rw [List.drop_eq_nil_iff, ← HM.out]; omega
        generalize P.getD k [] = x at *
        have HX := Lib.hid HR2
        have HRE := Lib.hid hrest
        have c1 := fun W => refParse_any (bs x) W (by rw [bs_size]; exact hxs)
        have c2 := fun W => refHex_any (bs x) W (by rw [bs_size]; exact hxs)
        rw [ls_bs] at c1 c2
        obtain ⟨X, hX⟩ : ∃ X, X = bs x := ⟨_, rfl⟩
        rw [← hX] at c1 c2 hcell
        clear HR2 hdr HR hX hxs hkP hrest
        have hlast : ((k : Int) == (m : Int) - 1) = decide (k + 1 = m) := by
          apply Bool.eq_iff_iff.2
          simp only [beq_iff_eq, decide_eq_true_eq]
          omega
        by_cases hdot : (parseL x).isSome = true ∧ last = true ∧ k + 1 = m
        · obtain ⟨hd1, hd2, hd3⟩ := hdot
          rw [decide_eq_true hd3] at hlast
          obtain ⟨v, hv⟩ := Option.isSome_iff_exists.1 hd1
          have hvb := (parseL_some hv).1
          have hnil := HRE.out.2 hd3
          subst hd2
          have HY : Hid (G = some (acc ++ [v / 65536, v % 65536])) := by
            show _ = _
            rw [HX.out, hnil, grpGo_one, if_pos rfl, hv]; rfl
          rw [hv, show aV (some v) = (v : Int) from rfl, show aK (some v) = true from rfl] at c1
          obtain ⟨v0, hv0⟩ : ∃ q : Nat, q = v / 65536 := ⟨_, rfl⟩
          obtain ⟨v1, hv1⟩ : ∃ q : Nat, q = v % 65536 := ⟨_, rfl⟩
          have hv0i : (v : Int) / 65536 = (v0 : Int) := by omega
          have hv1i : (v : Int) % 65536 = (v1 : Int) := by omega
          have hv1w : IntKind.u16.wrap (v : Int) = (v1 : Int) := by rw [IntKind.wrap_u16]; omega
          have hv0b : v0 < 65536 := by omega
          have hv1b : v1 < 65536 := by omega
          have HY2 : Hid (G = some (acc ++ [v0, v1])) := by rw [hv0, hv1]; exact HY
          clear hd1 hv HY hv0 hv1 hnil c2
          go_wp2_with (first
            | (go_at_call 128
               refine (c1 _).mono ?_
               rintro e w3 ⟨rfl, hb3⟩
               have hown3 := own_below hown hb3
               have hb23 := hb2.trans (hb3.mono hb2.size)
               have hbA := hb23.alloc hb23.size (.cells #[.int .u16 (v0 : Int), .int .u16 (v1 : Int)] 24)
               have hownA := hown3.alloc (.cells #[.int .u16 (v0 : Int), .int .u16 (v1 : Int)] 24)
               have hhA := Has.laid w3 24 #[.int .u16 (v0 : Int), .int .u16 (v1 : Int)] (0, 0) 2 _ rfl rfl
               clear c1)
            | (at_builtin; refine wpList_app_has _ rfl _ _ 79 rfl w1.heap.size 24 i16 (.int .u16 0) 2 tyU16s hi16 hz0 hz1 hz2 rfl _ _ _ (by exact rfl) hownA _ 2 2 _ (uv [v0, v1]) (by exact rfl) (by intro e; cases e) hhA (uv_one _) (by unfold maxLen; omega) (by omega) hbA (Nat.le_refl _) ?_; intro v' w' hown' hb' _))
          go_roundw
          case rel =>
            rw [uv_append] at hown'
            refine ⟨k + 1, acc ++ [v0, v1], by omega, by go_num, by simp; omega, Lib.hid ?_, by simpa using hown', hb'⟩
            rw [HY2.out, HRE.out.2 hd3]
            simp [grpGo]
          case measure => simp [intOf]; omega
        · have hdot' : ¬ ((parseL x).isSome = true ∧ last = true ∧ P.drop (k + 1) = []) := fun h => hdot ⟨h.1, h.2.1, HRE.out.1 h.2.2⟩
          cases hx : hexL x with
          | none =>
            have HY : Hid (G = none) := by show _ = _; rw [HX.out, grp_hex_none hdot' hx]; rfl
            have e1 : hV x = 0 ∧ hK x = false := by unfold hV hK; rw [hx]; exact ⟨rfl, rfl⟩
            rw [e1.1, e1.2] at c2
            clear hx e1
            cases hp : parseL x with
            | none =>
              rw [hp, show aK (none : Option Nat) = false from rfl] at c1
              generalize aV (none : Option Nat) = y at *
              clear hp hdot hdot'
              go_wp2_with (first | (go_at_call 128; refine (c1 _).mono ?_; rintro e w3 ⟨rfl, hb3⟩; have hc3 := (hb3.cell (p := ⟨b, off + k, none⟩) (cell_lt6 hcell)).trans hcell) | (go_at_call 129; refine (c2 _).mono ?_; rintro e w' ⟨rfl, rfl⟩))
              go_ret2
              exact GrpPost.no HY.out (hb.trans ((hb2.trans (hb3.mono hb2.size)).mono hb.size))
            | some v =>
              rw [hp, show aK (some v) = true from rfl] at c1
              generalize aV (some v) = y at *
              cases last with
              | false =>
                clear hp hdot hdot'
                go_wp2_with (first | (go_at_call 128; refine (c1 _).mono ?_; rintro e w3 ⟨rfl, hb3⟩; have hc3 := (hb3.cell (p := ⟨b, off + k, none⟩) (cell_lt6 hcell)).trans hcell) | (go_at_call 129; refine (c2 _).mono ?_; rintro e w' ⟨rfl, rfl⟩))
                go_ret2
                exact GrpPost.no HY.out (hb.trans ((hb2.trans (hb3.mono hb2.size)).mono hb.size))
              | true =>
                have hnl : ¬ k + 1 = m := fun h => hdot ⟨by rw [hp]; rfl, rfl, h⟩
                rw [decide_eq_false hnl] at hlast
                clear hp hdot hdot' hnl
                go_wp2_with (first | (go_at_call 128; refine (c1 _).mono ?_; rintro e w3 ⟨rfl, hb3⟩; have hc3 := (hb3.cell (p := ⟨b, off + k, none⟩) (cell_lt6 hcell)).trans hcell) | (go_at_call 129; refine (c2 _).mono ?_; rintro e w' ⟨rfl, rfl⟩))
                go_ret2
                exact GrpPost.no HY.out (hb.trans ((hb2.trans (hb3.mono hb2.size)).mono hb.size))
          | some g =>
            have HY : Hid (G = (grpGo (P.drop (k + 1)) last).map ((acc ++ [g]) ++ ·)) := by
              show _ = _
              rw [HX.out, grp_hex_some hdot' hx]
              cases grpGo (P.drop (k + 1)) last <;> simp
            have hgr := hV_range x
            have e1 : hV x = (g : Int) ∧ hK x = true := by unfold hV hK; rw [hx]; exact ⟨rfl, rfl⟩
            rw [e1.1, e1.2] at c2
            rw [e1.1] at hgr
            have hgb : g < 65536 := by omega
            clear hx e1 hgr
            cases hp : parseL x with
            | none =>
              rw [hp, show aK (none : Option Nat) = false from rfl] at c1
              generalize aV (none : Option Nat) = y at *
              clear hp hdot hdot'
              go_wp2_with (first | (go_at_call 128; refine (c1 _).mono ?_; rintro e w3 ⟨rfl, hb3⟩; have hc3 := (hb3.cell (p := ⟨b, off + k, none⟩) (cell_lt6 hcell)).trans hcell; have hown3 := own_below hown hb3; have hb23 := hb2.trans (hb3.mono hb2.size)) | (go_at_call 129; refine (c2 _).mono ?_; rintro e w' ⟨rfl, rfl⟩) | (at_builtin; refine wpList_app_one _ rfl _ _ 79 rfl w1.heap.size 24 i16 (.int .u16 0) 2 tyU16s hi16 hz0 hz1 hz2 rfl _ (by exact rfl) _ _ _ (by exact rfl) hown3 (by exact rfl) (by unfold maxLen; omega) (by omega) hb23 (Nat.le_refl _) ?_; intro v' w' hown' hb' _))
              go_roundw
              case rel =>
                have e := uv_append acc [g]
                rw [show uv [g] = [.int .u16 (g : Int)] from rfl] at e
                rw [e] at hown'
                exact ⟨k + 1, acc ++ [g], by omega, by go_num, by simp; omega, HY, by simpa using hown', hb'⟩
              case measure => simp [intOf]; omega
            | some v =>
              rw [hp, show aK (some v) = true from rfl] at c1
              generalize aV (some v) = y at *
              cases last with
              | false =>
                clear hp hdot hdot'
                go_wp2_with (first | (go_at_call 128; refine (c1 _).mono ?_; rintro e w3 ⟨rfl, hb3⟩; have hc3 := (hb3.cell (p := ⟨b, off + k, none⟩) (cell_lt6 hcell)).trans hcell; have hown3 := own_below hown hb3; have hb23 := hb2.trans (hb3.mono hb2.size)) | (go_at_call 129; refine (c2 _).mono ?_; rintro e w' ⟨rfl, rfl⟩) | (at_builtin; refine wpList_app_one _ rfl _ _ 79 rfl w1.heap.size 24 i16 (.int .u16 0) 2 tyU16s hi16 hz0 hz1 hz2 rfl _ (by exact rfl) _ _ _ (by exact rfl) hown3 (by exact rfl) (by unfold maxLen; omega) (by omega) hb23 (Nat.le_refl _) ?_; intro v' w' hown' hb' _))
                go_roundw
                case rel =>
                  have e := uv_append acc [g]
                  rw [show uv [g] = [.int .u16 (g : Int)] from rfl] at e
                  rw [e] at hown'
                  exact ⟨k + 1, acc ++ [g], by omega, by go_num, by simp; omega, HY, by simpa using hown', hb'⟩
                case measure => simp [intOf]; omega
              | true =>
                have hnl : ¬ k + 1 = m := fun h => hdot ⟨by rw [hp]; rfl, rfl, h⟩
                rw [decide_eq_false hnl] at hlast
                clear hp hdot hdot' hnl
                go_wp2_with (first | (go_at_call 128; refine (c1 _).mono ?_; rintro e w3 ⟨rfl, hb3⟩; have hc3 := (hb3.cell (p := ⟨b, off + k, none⟩) (cell_lt6 hcell)).trans hcell; have hown3 := own_below hown hb3; have hb23 := hb2.trans (hb3.mono hb2.size)) | (go_at_call 129; refine (c2 _).mono ?_; rintro e w' ⟨rfl, rfl⟩) | (at_builtin; refine wpList_app_one _ rfl _ _ 79 rfl w1.heap.size 24 i16 (.int .u16 0) 2 tyU16s hi16 hz0 hz1 hz2 rfl _ (by exact rfl) _ _ _ (by exact rfl) hown3 (by exact rfl) (by unfold maxLen; omega) (by omega) hb23 (Nat.le_refl _) ?_; intro v' w' hown' hb' _))
                go_roundw
                case rel =>
                  have e := uv_append acc [g]
                  rw [show uv [g] = [.int .u16 (g : Int)] from rfl] at e
                  rw [e] at hown'
                  exact ⟨k + 1, acc ++ [g], by omega, by go_num, by simp; omega, HY, by simpa using hown', hb'⟩
                case measure => simp [intOf]; omega
      · obtain rfl : k = m := by omega
        have HY : Hid (G = some acc) := by
          show _ = _
          rw [HR.out, List.drop_of_length_le (by rw [← HM.out]; exact Nat.le_refl _)]
          simp [grpGo]
        go_wp2
        go_ret2
        rw [HY.out]
        exact ⟨_, rfl, own_low6 hown hb.size, hb.trans (hb2.mono hb.size)⟩
end

end Go.Proofs.YtpccpgihldpiiaaGreatDoor
