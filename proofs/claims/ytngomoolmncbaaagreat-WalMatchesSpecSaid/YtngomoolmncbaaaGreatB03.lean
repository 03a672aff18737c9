/-
Contracts of the step of the checksum, of package crc and of its reference.
Contracts of Update and Sum, of package crc and of its reference.
append of a slice to a row that the call itself has made; the slices of bytes that came in. No program.
Contracts of the helpers of the statements (package hstsstorekeep) on bytes: OwnBytes, Bytes.
Arrays by value: box, alloc, load and store of a whole array, store of one element. No program.
make([]byte, n), n a variable; '[]byte' of a row of its own that is filled one by one.
-/
import Derived.Test.YtngomoolmncbaaaGreatRows
import Derived.Test.YtngomoolmncbaaaGreatB01
import Derived.Laws.BitsAll
import Derived.Laws.ShiftsVar
import Derived.BigQuiet
import Derived.Deep.QuietTactic
import Derived.WalkSmall
import Derived.Test.YtngomoolmncbaaaGreatB00
import Derived.Laws.AppendOwnNone
import Derived.OpenShut
import Derived.Deep.WholeRow
namespace Go.Proofs.YtngomoolmncbaaaGreat
section
open Go.RowKit

/-- A number of 32 bits as the walk's number: simp does not look into it. -/
def nv (c : W32) : Int := (c.toNat : Int)
theorem nv_ge (c : W32) : 0 ≤ nv c := by unfold nv; omega
theorem nv_lt (c : W32) : nv c < 4294967296 := by have := c.isLt; unfold nv; omega
theorem nv_zero : nv 0#32 = 0 := rfl
theorem nv_inj {a b : W32} (h : nv a = nv b) : a = b := BitVec.eq_of_toNat_eq (by unfold nv at h; omega)
theorem nv_of (n : Int) (h0 : 0 ≤ n) (h1 : n < 4294967296) : ∃ c, n = nv c :=
  ⟨BitVec.ofNat 32 n.toNat, by simp only [nv, BitVec.toNat_ofNat]; omega⟩
theorem nv_beq (a b : W32) : (nv a == nv b) = decide (a = b) := by
  by_cases h : a = b
  · subst h; simp
  · rw [decide_eq_false h, beq_eq_false_iff_ne]; exact fun e => h (nv_inj e)
theorem nv_xor (a b : W32) : bits .xor .u32 (nv a) (nv b) = nv (a ^^^ b) := by
  unfold nv
  rw [u32_xor_nat _ _ (by have := a.isLt; omega) (by have := b.isLt; omega), BitVec.toNat_xor]
theorem nv_byte (b : UInt8) : nv (b32 b) = (b.toNat : Int) := by unfold nv; rw [b32_toNat]
theorem nv_xor_byte (c : W32) (b : UInt8) : bits .xor .u32 (nv c) (b.toNat : Int) = nv (c ^^^ b32 b) := by rw [← nv_byte, nv_xor]
theorem nv_not (a : W32) : bits .xor .u32 IntKind.u32.max (nv a) = nv (~~~ a) := by
  have h := nv_xor (~~~ 0#32) a
  rw [← BitVec.not_xor_left, BitVec.zero_xor] at h
  exact h
theorem bit0 (c : W32) : c.getLsbD 0 = decide (nv c % 2 = 1) := by
  have : c.getLsbD 0 = decide (c.toNat % 2 = 1) := by simp [BitVec.getLsbD, Nat.testBit_zero]
  rw [this]
  unfold nv
  exact decide_eq_decide.2 (by omega)
theorem half_nv (c : W32) : nv c / (2 : Int) = nv (c >>> 1) := by
  unfold nv
  rw [BitVec.toNat_ushiftRight, Nat.shiftRight_eq_div_pow]
  omega
theorem stepB_odd (c : W32) (h : nv c % 2 = 1) : bits .xor .u32 (nv c / 2) 3988292384 = nv (stepB c) := by
  have hb : c.getLsbD 0 = true := by rw [bit0]; simpa using h
  rw [half_nv, show (3988292384 : Int) = nv polyW from rfl, nv_xor]
  unfold stepB
  rw [if_pos hb]
theorem stepB_even (c : W32) (h : nv c % 2 = 0) : nv c / 2 = nv (stepB c) := by
  have hb : ¬ c.getLsbD 0 = true := by rw [bit0]; simp; omega
  unfold stepB
  rw [if_neg hb, half_nv]
theorem and_one (c : W32) : bits .and .u32 (nv c) 1 = nv c % 2 := by
  unfold nv
  rw [show (1 : Int) = ((1 : Nat) : Int) from rfl, u32_and_nat _ _ (by have := c.isLt; omega) (by decide), Nat.and_one_is_mod]
  omega

attribute [irreducible] nv

set_option maxHeartbeats 400000 in
theorem step_any (c : W32) (w : World) : Calls Tryz.prog 115 #[.int .u32 (nv c)] w fun e w' => e = .returned (.int .u32 (nv (stepB c))) ∧ w = w' := by
  have hge := nv_ge c
  have hlt := nv_lt c
  have ha := and_one c
  by_cases h : nv c % 2 = 1
  · have HS := Lib.hid (stepB_odd c h)
    rw [h] at ha
    clear h
    go_enter Tryz.func115, Tryz.ntmps115
    go_wp2
    go_ret
    exact ⟨ret_int HS.out, rfl⟩
  · have h : nv c % 2 = 0 := by omega
    have HS := Lib.hid (stepB_even c h)
    rw [h] at ha
    clear h
    go_enter Tryz.func115, Tryz.ntmps115
    go_wp2
    go_ret
    exact ⟨ret_int HS.out, rfl⟩

set_option maxHeartbeats 400000 in
theorem refStep_any (c : W32) (w : World) : Calls Tryz.prog 103 #[.int .u32 (nv c)] w fun e w' => e = .returned (.int .u32 (nv (stepB c))) ∧ w = w' := by
  have hge := nv_ge c
  have hlt := nv_lt c
  by_cases h : nv c % 2 = 1
  · have HS := Lib.hid (stepB_odd c h)
    have h2 : nv c % 2 = 1 := h
    clear h
    go_enter Tryz.func103, Tryz.ntmps103
    go_wp2
    go_ret
    exact ⟨ret_int HS.out, rfl⟩
  · have h : nv c % 2 = 0 := by omega
    have HS := Lib.hid (stepB_even c h)
    have h2 : nv c % 2 = 0 := h
    clear h
    go_enter Tryz.func103, Tryz.ntmps103
    go_wp2
    go_ret
    exact ⟨ret_int HS.out, rfl⟩

set_option maxHeartbeats 400000 in
theorem eight_any (c : W32) (w : World) : Calls Tryz.prog 101 #[.int .u32 (nv c)] w fun e w' => e = .returned (.int .u32 (nv (stepN 8 c))) ∧ w = w' := by
  go_enter Tryz.func101, Tryz.ntmps101
  go_wp2
  go_loop [0, 3] (fun v i => ∃ (k : Nat) (d : W32), k ≤ 8 ∧ i = .int .i64 k ∧ v = .int .u32 (nv d) ∧ d = stepN k c) (fun _ i => 8 - (intOf i).toNat)
  case atStart => exact ⟨0, c, Nat.zero_le _, rfl, rfl, rfl⟩
  case round =>
    obtain ⟨k, d, hk, rfl, rfl, hd⟩ := hrel
    have HD := Lib.hid hd
    clear hd
    by_cases hlt : k < 8
    · have HN := Lib.hid (stepN_succ k c)
      go_wp2_with (go_at_call 115; refine (step_any _ _).mono ?_; rintro e w' ⟨rfl, rfl⟩)
      go_round
      case rel => exact ⟨k + 1, _, by omega, by go_num, rfl, by rw [HN.out, HD.out]⟩
      case measure => simp [intOf]; omega
    · obtain rfl : k = 8 := by omega
      go_wp2
      go_ret
      exact ⟨ret_int (by rw [HD.out]), rfl⟩
end

section
open Go.RowKit

theorem upd_next (c : W32) (l : List UInt8) (k : Nat) (h : k < l.length) : crcU c (l.take (k + 1)) = stepN 8 (crcU c (l.take k) ^^^ b32 l[k]) := upd_take_succ c l k h

set_option maxHeartbeats 1000000 in
theorem update_any (s : W32) (A : Option Addr) (len cap B : Nat) (l : List UInt8) (w : World) (hA : Has w B A len (l.map bv)) (hlen : len ≤ 1000000000) :
    Calls Tryz.prog 89 #[.int .u32 (nv s), .slice A len cap] w fun e w' => e = .returned (.int .u32 (nv (crcUpd s l))) ∧ w = w' := by
  have HL : Hid (l.length = len) := by show _ = _; simpa using hA.1
  have HA := Lib.hid hA
  clear hA
  have hn := nv_not s
  obtain ⟨m, hm⟩ : ∃ m, m = ~~~ s := ⟨_, rfl⟩
  rw [← hm] at hn
  have HM := Lib.hid hm
  clear hm
  go_enter Tryz.func89, Tryz.ntmps89
  go_wp2
  go_loop [5, 12] (fun v i => ∃ (k : Nat) (d : W32), k ≤ len ∧ i = .int .i64 k ∧ v = .int .u32 (nv d) ∧ d = crcU m (l.take k)) (fun _ i => len - (intOf i).toNat)
  case atStart => exact ⟨0, m, Nat.zero_le _, rfl, rfl, rfl⟩
  case round =>
    obtain ⟨k, d, hk, rfl, rfl, hd⟩ := hrel
    have HD := Lib.hid hd
    clear hd
    by_cases hlt : k < len
    · have hks : k < l.length := by rw [HL.out]; exact hlt
      obtain ⟨b, off, rfl, hb, hc⟩ := HA.out.at_ hlt
      rw [List.getElem_map, bv_eq] at hc
      have HN := Lib.hid (upd_next m l k hks)
      have hx := nv_xor_byte d l[k]
      obtain ⟨x, hxe⟩ : ∃ x, x = d ^^^ b32 l[k] := ⟨_, rfl⟩
      rw [← hxe] at hx
      have HX := Lib.hid hxe
      clear hxe
      have hbl := byte_lt l[k]
      go_wp2_with (go_at_call 101; refine (eight_any _ _).mono ?_; rintro e w' ⟨rfl, rfl⟩)
      go_round
      case rel => exact ⟨k + 1, _, by omega, by go_num, rfl, by rw [HN.out, HX.out, HD.out]⟩
      case measure => simp [intOf]; omega
    · obtain rfl : k = len := by omega
      have HT : Hid (l.take k = l) := by show _ = _; exact List.take_of_length_le (by rw [HL.out]; omega)
      have hn2 := nv_not d
      obtain ⟨z, hz⟩ : ∃ z, z = ~~~ d := ⟨_, rfl⟩
      rw [← hz] at hn2
      have HZ := Lib.hid hz
      clear hz
      go_wp2
      go_ret
      exact ⟨ret_int (by first | (rw [HZ.out, HD.out, HT.out, HM.out]; rfl) | (rw [hn2, HZ.out, HD.out, HT.out, HM.out]; rfl)), rfl⟩

set_option maxHeartbeats 400000 in
theorem sum_any (A : Option Addr) (len cap B : Nat) (l : List UInt8) (w : World) (hA : Has w B A len (l.map bv)) (hlen : len ≤ 1000000000) :
    Calls Tryz.prog 68 #[.slice A len cap] w fun e w' => e = .returned (.int .u32 (nv (crcSum l))) ∧ w = w' := by
  have hu := update_any 0#32 A len cap B l w hA hlen
  rw [nv_zero] at hu
  go_enter Tryz.func68, Tryz.ntmps68
  go_wp2_with fail
  refine hu.mono ?_
  rintro e w' ⟨rfl, rfl⟩
  go_wp2
  go_ret
  exact ⟨rfl, rfl⟩

set_option maxRecDepth 20000 in
set_option maxHeartbeats 1000000 in
theorem refUpdate_any (s : W32) (A : Option Addr) (len cap B : Nat) (l : List UInt8) (w : World) (hA : Has w B A len (l.map bv)) (hlen : len ≤ 1000000000) :
    Calls Tryz.prog 92 #[.int .u32 (nv s), .slice A len cap] w fun e w' => e = .returned (.int .u32 (nv (crcUpd s l))) ∧ w = w' := by
  have HL : Hid (l.length = len) := by show _ = _; simpa using hA.1
  have HA := Lib.hid hA
  clear hA
  have hn := nv_not s
  obtain ⟨m, hm⟩ : ∃ m, m = ~~~ s := ⟨_, rfl⟩
  rw [← hm] at hn
  have HM := Lib.hid hm
  clear hm
  go_enter Tryz.func92, Tryz.ntmps92
  go_wp2
  go_loop [5, 6] (fun v i => ∃ (k : Nat) (d : W32), k ≤ len ∧ i = .int .i64 k ∧ v = .int .u32 (nv d) ∧ d = crcU m (l.take k)) (fun _ i => len - (intOf i).toNat)
  case atStart => exact ⟨0, m, Nat.zero_le _, rfl, rfl, rfl⟩
  case round =>
    obtain ⟨k, d, hk, rfl, rfl, hd⟩ := hrel
    have HD := Lib.hid hd
    clear hd
    by_cases hlt : k < len
    · have hks : k < l.length := by rw [HL.out]; exact hlt
      obtain ⟨b, off, rfl, hb, hc⟩ := HA.out.at_ hlt
      rw [List.getElem_map, bv_eq] at hc
      have HN := Lib.hid (upd_next m l k hks)
      have hx := nv_xor_byte d l[k]
      obtain ⟨x, hxe⟩ : ∃ x, x = d ^^^ b32 l[k] := ⟨_, rfl⟩
      rw [← hxe] at hx
      have HX := Lib.hid hxe
      clear hxe
      have hbl := byte_lt l[k]
      go_wp2
      go_loop [5, 7] (fun v i => ∃ (j : Nat) (y : W32), j ≤ 8 ∧ i = .int .i64 j ∧ v = .int .u32 (nv y) ∧ y = stepN j x) (fun _ i => 8 - (intOf i).toNat)
      case atStart => exact ⟨0, x, Nat.zero_le _, rfl, rfl, rfl⟩
      case round =>
        obtain ⟨j, y, hj, rfl, rfl, hy⟩ := hrel
        have HY := Lib.hid hy
        clear hy
        by_cases hjlt : j < 8
        · have HJ := Lib.hid (stepN_succ j x)
          go_wp2_with (go_at_call 103; refine (refStep_any _ _).mono ?_; rintro e w' ⟨rfl, rfl⟩)
          go_round
          case rel => exact ⟨j + 1, _, by omega, by go_num, rfl, by rw [HJ.out, HY.out]⟩
          case measure => simp [intOf]; omega
        · obtain rfl : j = 8 := by omega
          go_wp2
          go_round
          case rel => exact ⟨k + 1, _, by omega, by go_num, rfl, by rw [HY.out, HN.out, HX.out, HD.out]⟩
          case measure => simp [intOf]; omega
    · obtain rfl : k = len := by omega
      have HT : Hid (l.take k = l) := by show _ = _; exact List.take_of_length_le (by rw [HL.out]; omega)
      have hn2 := nv_not d
      obtain ⟨z, hz⟩ : ∃ z, z = ~~~ d := ⟨_, rfl⟩
      rw [← hz] at hn2
      have HZ := Lib.hid hz
      clear hz
      go_wp2
      go_ret
      exact ⟨ret_int (by first | (rw [HZ.out, HD.out, HT.out, HM.out]; rfl) | (rw [hn2, HZ.out, HD.out, HT.out, HM.out]; rfl)), rfl⟩

set_option maxHeartbeats 400000 in
theorem refSum_any (A : Option Addr) (len cap B : Nat) (l : List UInt8) (w : World) (hA : Has w B A len (l.map bv)) (hlen : len ≤ 1000000000) :
    Calls Tryz.prog 74 #[.slice A len cap] w fun e w' => e = .returned (.int .u32 (nv (crcSum l))) ∧ w = w' := by
  have hu := refUpdate_any 0#32 A len cap B l w hA hlen
  rw [nv_zero] at hu
  go_enter Tryz.func74, Tryz.ntmps74
  go_wp2_with fail
  refine hu.mono ?_
  rintro e w' ⟨rfl, rfl⟩
  go_wp2
  go_ret
  exact ⟨rfl, rfl⟩
end

section
open Go.RowKit

/-- '[]T{}' leaves a row without cells. -/
theorem own_empty (w : World) (e : TypeId) : (w.alloc (.cells #[] e)).ownsRow w.heap.size e 1 (.slice (some ⟨w.heap.size, 0, none⟩) 0 0) 0 [] :=
  ⟨rfl, .inr ⟨w.heap.size, 0, #[], rfl, Nat.le_refl _, by show (w.heap.push _)[w.heap.size]? = _; simp, Nat.le_refl _, Nat.zero_le _, rfl, rfl⟩⟩
/-- A row that was just laid. -/
theorem own_laid (w : World) (e : TypeId) (xs : List Value) (n : Nat) (h : xs.length = n) (hn : n ≤ maxLen) : (w.alloc (.cells xs.toArray e)).ownsRow w.heap.size e 1 (.slice (some ⟨w.heap.size, 0, none⟩) n n) n xs :=
  ⟨by omega, .inr ⟨w.heap.size, n, xs.toArray, rfl, Nat.le_refl _, by show (w.heap.push _)[w.heap.size]? = _; simp, Nat.le_refl _, hn, by simp [h], by simp [← h]⟩⟩

/-- append(v, x...): v owns its row, x reads as a list. -/
theorem wpList_app_has {P : Program} {w0 : World} (w : World) {ops : Array Oper} {rest : List Oper} {o : Oper} {a : Act} {Q : Exit → Act → World → Prop} (hgd : o.guard = none) (s x : Operand) (t : TypeId)
    (ho : o.op = .call { callee := .builtin .append, args := #[s, x], argTypes := #[t, t] })
    (base : Nat) (e : TypeId) (i : TypeInfo) (z : Value) (bytes : Nat) (ht : P.underlying t = some (.slice e)) (hi : P.info? e = some i) (hz : i.zero = some z)
    (hsize : i.size = 1) (hby : i.bytes = bytes) (hzs : z.cells.size = 1)
    (v : Value) (n : Nat) (xs : List Value) (hs : a.eval s = v) (hown : w.ownsRow base e 1 v n xs)
    (A : Option Addr) (m c B : Nat) (news : List Value) (hx : a.eval x = .slice A m c) (hA : A = none → c = 0) (hhas : Has w B A m news) (h1 : ∀ u ∈ news, u.oneCell' = true)
    (h63 : n + m ≤ maxLen) (hbytes : (n + m) * bytes ≤ 140737488355328) (hb : Below base w0 w) (hbase : base ≤ w0.heap.size)
    (h : ∀ v' w', w'.ownsRow base e 1 v' (n + m) (xs ++ news) → Below base w0 w' → w.grownBy w' v.ownBlock → wpList P ops Q rest (a.put o.dst v') w') : wpList P ops Q (o :: rest) a w := by
  have hbw : base ≤ w.heap.size := by have := hb.size; omega
  match A, hx, hA, hhas with
  | none, hx, hA, hhas =>
    have hm : m = 0 := by
      by_cases h0 : 0 < m
      · obtain ⟨b, off, e, _⟩ := hhas.2 h0
        cases e
      · omega
    subst hm
    obtain rfl := hA rfl
    have hn : news = [] := List.eq_nil_of_length_eq_zero hhas.1
    subst hn
    refine wpList_append_own_none hgd s x t ho base e i 1 ht hi v n xs hs hown hx ?_
    exact h v w (by simpa using hown) hb ⟨rfl, rfl, rfl, Nat.le_refl _, fun _ _ _ => rfl⟩
  | some ad, hx, hA, hhas =>
    refine wpList_append_own (w := w) hgd s x t ho base e i z 1 bytes ht hi hz hsize hby hzs (by decide) v n xs hs hown ad m c news hx (by rw [hhas.1, Nat.mul_one]) ?_ h1 h63 hbytes hbw ?_
    · intro j u hj
      have hjl : j < news.length := (List.getElem?_eq_some_iff.1 hj).1
      obtain ⟨b, off, e, hb, hc⟩ := hhas.2 (by have := hhas.1; omega)
      injection e with e
      subst e
      have hadd : (⟨b, off, none⟩ : Addr).add j = ⟨b, off + j, none⟩ := by unfold Addr.add; split <;> simp_all
      rw [hadd, hc j hjl, ← hj, List.getElem?_eq_getElem hjl]
    · intro v' w' hown' hgrow _
      exact h v' w' hown' (owns_below hown hb hbw hgrow) hgrow

/-- A guarded operation whose guard is met, as one without a guard. -/
theorem wpList_wanted {P : Program} {w : World} {ops : Array Oper} {rest : List Oper} {o : Oper} {a : Act} {Q : Exit → Act → World → Prop} (hw : Region.wanted o (yielded ops a.tmps) = true)
    (h : wpList P ops Q ({ o with guard := none } :: rest) a w) : wpList P ops Q (o :: rest) a w := by
  unfold wpList at h ⊢
  rw [if_pos hw]
  rw [if_pos (by rfl)] at h
  exact h

theorem of_own_none {w : World} {base n c : Nat} {e : TypeId} {A : Option Addr} {xs : List Value} (h : w.ownsRow base e 1 (.slice A n c) n xs) : A = none → c = 0 := by
  rintro rfl
  rcases h.2 with ⟨e, _⟩ | ⟨g, cap, cur, e, _⟩
  · injection e
  · injection e with e _ _; cases e

/-- What a call leaves above the world leaves a row as it was. -/
theorem own_below {w w' : World} {base e size n : Nat} {v : Value} {xs : List Value} (h : w.ownsRow base e size v n xs) (hb : Below w.heap.size w w') : w'.ownsRow base e size v n xs :=
  ⟨h.1, h.2.elim Or.inl fun ⟨g, cap, cur, hv, hg, hr, r⟩ => Or.inr ⟨g, cap, cur, hv, hg, (hb.block g (Array.getElem?_eq_some_iff.1 hr).1).trans hr, r⟩⟩

/-- A slice of bytes that came in. -/
def Arg8 (w : World) (A : Option Addr) (len cap : Nat) (l : List UInt8) : Prop :=
  Has w w.heap.size A len (l.map bv) ∧ len ≤ cap ∧ cap ≤ maxLen ∧ (A = none → cap = 0)
theorem arg8_of {w : World} {a : Option Addr} {len cap : Nat} {zs : List Int}
    (h : (a = none ∧ len = 0 ∧ cap = 0 ∧ zs = []) ∨
      ∃ x, a = some x ∧ len ≤ cap ∧ cap ≤ maxLen ∧ zs.length = cap ∧ (∀ i, i < zs.length → w.cell? (x.add i) = some (.int .u8 (zs.getD i 0))) ∧ ∀ n ∈ zs, (Lit.int .u8 n).wf = true) :
    ∃ l, Arg8 w a len cap l := by
  rcases h with ⟨rfl, rfl, rfl, rfl⟩ | ⟨x, rfl, hl, hm, hz, hc, hw⟩
  · exact ⟨[], Has.nil _ _ _, Nat.le_refl _, Nat.zero_le _, fun _ => rfl⟩
  · refine ⟨(zs.take len).map fun n => UInt8.ofNat n.toNat, ⟨by simp; omega, fun h0 => ?_⟩, hl, hm, fun e => by cases e⟩
    have h00 := hc 0 (by omega)
    have hx0 : x.add 0 = x := by unfold Addr.add; simp
    rw [hx0] at h00
    have hspot : x.spot = none := by
      unfold World.cell? at h00
      split at h00
      · by_cases hs : x.spot.isSome = true
        · rw [if_pos hs] at h00; cases h00
        · simpa using hs
      · cases h00
    have hlt : x.block < w.heap.size := by
      unfold World.cell? at h00
      split at h00
      · rename_i hh
        exact (Array.getElem?_eq_some_iff.1 hh).1
      · cases h00
    refine ⟨x.block, x.off, by rw [← hspot], hlt, fun j hj => ?_⟩
    have hj' : j < len := by simp at hj; omega
    have hadd : x.add j = ⟨x.block, x.off + j, none⟩ := by
      unfold Addr.add
      split
      · subst j; rw [Nat.add_zero, ← hspot]
      · rfl
    rw [← hadd, hc j (by omega)]
    have hwj := hw (zs.getD j 0) (by
      rw [List.getD_eq_getElem?_getD, List.getElem?_eq_getElem (by omega)]
      exact List.getElem_mem _)
    have hbd := bounds_u8 hwj
    simp only [List.getElem_map, List.getElem_take, bv_eq]
    rw [List.getD_eq_getElem?_getD, List.getElem?_eq_getElem (by omega), Option.getD_some] at hbd ⊢
    rw [UInt8.toNat_ofNat']
    congr 2
    omega
theorem Arg8.len {w : World} {A : Option Addr} {len cap : Nat} {l : List UInt8} (h : Arg8 w A len cap l) : l.length = len := by simpa using h.1.1

/-- A slice that came in is the first part of itself. -/
theorem Has.take {w : World} {B n : Nat} {A : Option Addr} {xs : List Value} (h : Has w B A n xs) (m : Nat) (hm : m ≤ n) : Has w B A m (xs.take m) :=
  ⟨by have := h.1; simp; omega, fun h0 => by
    obtain ⟨b, off, e, hb, hc⟩ := h.2 (by omega)
    refine ⟨b, off, e, hb, fun j hj => ?_⟩
    rw [hc j (by simp at hj; omega)]
    simp⟩
theorem Has.laid (w : World) (t : TypeId) (c : Array Value) (fr : Nat × Nat) (n : Nat) (xs : List Value) (hc : c = xs.toArray) (hn : xs.length = n) : Has (w.alloc (.cells c t fr)) (w.heap.size + 1) (some ⟨w.heap.size, 0, none⟩) n xs :=
  ⟨hn, fun _ => ⟨w.heap.size, 0, rfl, by omega, fun j hj => by
    subst hc
    rw [cell_of_row _ w.heap.size (0 + j) xs.toArray t fr (heap_alloc_last w _)]
    simp⟩⟩
theorem one_bytes (l : List UInt8) : ∀ u ∈ l.map bv, u.oneCell' = true := by
  intro u hu
  obtain ⟨c, _, rfl⟩ := List.mem_map.1 hu
  rfl
end

section
open Go.RowKit

theorem tyBs : Tryz.prog.underlying 37 = some (.slice 5) := by kernel_rfl
theorem tyU8 : Tryz.prog.underlying 5 = some (.int .u8) := by kernel_rfl
theorem tyStr : Tryz.prog.underlying 9 = some .string := by kernel_rfl
theorem infoU8 : (Tryz.prog.info? 5).map (fun i => (i.zero, i.size, i.bytes)) = some (some (.int .u8 0), 1, 1) := by kernel_rfl

set_option maxRecDepth 20000 in
/-- string(b). -/
theorem str_has (w : World) (A : Option Addr) (n c B : Nat) (l : List UInt8) (h : Has w B A n (l.map bv)) :
    (convert 37 9 (.slice A n c)).run Tryz.prog w = .ok (.string (bs l)) w := by
  have hl : l.length = n := by simpa using h.1
  match A, h with
  | none, h =>
    have hn : n = 0 := by
      by_cases h0 : 0 < n
      · obtain ⟨b, off, e, _⟩ := h.2 h0
        cases e
      · omega
    subst hn
    have : l = [] := List.eq_nil_of_length_eq_zero hl
    subst this
    exact run_convert_bytes_nil w 37 5 tyBs tyU8 0 c 9 tyStr
  | some ad, h =>
    rcases Nat.eq_zero_or_pos n with h0 | h0
    · subst h0
      have : l = [] := List.eq_nil_of_length_eq_zero hl
      subst this
      have hl0 : (loadCells ad 0).run Tryz.prog w = .ok (([] : List Int).map (Value.int .u8)).toArray w := run_loadCells_list (P := Tryz.prog) w ad [] (fun j v hj => by simp at hj)
      rw [run_convert_bytes_string w 37 9 5 _ 0 c tyBs tyU8 tyStr, run_bytesToString w ad 0 c [] hl0]
      rfl
    · obtain ⟨b, off, e, _, hc⟩ := h.2 h0
      injection e with e
      subst e
      rw [run_convert_bytes_arg w 37 5 tyBs tyU8 b off n c (l.map fun c => (c.toNat : Int)) (by simpa using hl) (fun j hj => by
        rw [hc j (by simp; omega)]
        have hjl : j < l.length := by omega
        simp [List.getD, List.getElem?_eq_getElem hjl, bv]) 9 tyStr, strOfNums_bytes]

set_option maxHeartbeats 400000 in
theorem ownBytes_any (A : Option Addr) (len cap B : Nat) (l : List UInt8) (w : World) (hA : Has w B A len (l.map bv)) (hcap : A = none → cap = 0) (hlen : len ≤ 1000000000) (hB : B ≤ w.heap.size) :
    Calls Tryz.prog 8 #[.slice A len cap] w fun e w' => (∃ v, e = .returned v ∧ w'.ownsRow w.heap.size 5 1 v len (l.map bv)) ∧ Below w.heap.size w w' := by
  obtain ⟨i5, hi5, hz0, hz1, hz2⟩ := info_parts infoU8
  have hown := own_empty w 5
  have hb := (Below.refl w.heap.size w).alloc (Nat.le_refl _) (.cells #[] 5)
  have hA' := hA.alloc hB (.cells #[] 5)
  clear hA
  go_enter Tryz.func8, Tryz.ntmps8
  go_wp2_with (at_builtin; refine wpList_app_has _ rfl _ _ 37 rfl w.heap.size 5 i5 (.int .u8 0) 1 tyBs hi5 hz0 hz1 hz2 rfl _ _ _ (by exact rfl) hown A len cap _ (l.map bv) (by exact rfl) hcap hA' (one_bytes l) (by unfold maxLen; omega) (by omega) hb (Nat.le_refl _) ?_; intro v' w' hown' hb' _)
  go_ret
  exact ⟨⟨v', rfl, by simpa using hown'⟩, hb'⟩

/-- Equal as lists of bytes. -/
def eqL (l m : List UInt8) : Bool := decide (l = m)
set_option maxHeartbeats 400000 in
theorem bytes_any (A1 A2 : Option Addr) (n1 c1 n2 c2 B : Nat) (l m : List UInt8) (w : World) (h1 : Has w B A1 n1 (l.map bv)) (h2 : Has w B A2 n2 (m.map bv)) :
    Calls Tryz.prog 11 #[.slice A1 n1 c1, .slice A2 n2 c2] w fun e w' => e = .returned (.bool (eqL l m)) ∧ w = w' := by
  have e1 := str_has w A1 n1 c1 B l h1
  have e2 := str_has w A2 n2 c2 B m h2
  have HE : Hid (((bs l).toList == (bs m).toList) = eqL l m) := by
    show _ = _
    rw [toList_ls, toList_ls, ls_bs, ls_bs]
    unfold eqL
    by_cases h : l = m
    · subst h; simp
    · rw [decide_eq_false h, beq_eq_false_iff_ne]; exact h
  clear h1 h2
  go_enter Tryz.func11, Tryz.ntmps11
  go_wp2
  go_ret
  exact ⟨ret_bool (by rw [← HE.out]), rfl⟩
end

section
open Go.RowKit

/-- The row of block g. -/
def Row (w : World) (g : Nat) (t : TypeId) (c : Array Value) : Prop := w.heap[g]? = some (.cells c t (0, 0))
section
variable {w w' : World} {g g' B : Nat} {t : TypeId} {c : Array Value}
theorem Row.lt (h : Row w g t c) : g < w.heap.size := (Array.getElem?_eq_some_iff.1 h).1
theorem Row.below (h : Row w g t c) (hb : Below B w w') (hg : g < B) : Row w' g t c := (hb.block g hg).trans h
theorem Row.grown (h : Row w g t c) (hg : w.grownBy w' (some g')) (hne : g ≠ g') : Row w' g t c := (hg.block g h.lt (fun e => by injection e with e; exact hne e)).trans h
theorem Row.grown0 (h : Row w g t c) (hg : w.grownBy w' none) : Row w' g t c := (hg.block g h.lt (fun e => by cases e)).trans h
theorem Row.cell (h : Row w g t c) {k : Nat} (hk : k < c.size) : w.cell? ⟨g, k, none⟩ = some c[k] := by
  rw [cell_of_row w g k c t (0, 0) h, Array.getElem?_eq_getElem hk]
theorem row_new (w : World) (c : Array Value) (t : TypeId) : Row (w.alloc (.cells c t)) w.heap.size t c := heap_alloc_last w _
theorem below_row {w0 : World} (hb : Below B w0 w) (hg : w.grownBy w' (some g)) (hB : B ≤ w0.heap.size) (hr : B ≤ g) : Below B w0 w' :=
  hb.grown hg (by have := hb.size; omega) (fun k e => by injection e with e; omega)
theorem below_row0 {w0 : World} (hb : Below B w0 w) (hg : w.grownBy w' none) (hB : B ≤ w0.heap.size) : Below B w0 w' :=
  hb.grown hg (by have := hb.size; omega) (fun k e => by cases e)
theorem grown_setRow (w : World) (g : Nat) (c : Array Value) : w.grownBy (w.setRow g c) (some g) :=
  ⟨rfl, rfl, rfl, by rw [setRow_size]; exact Nat.le_refl _, fun i _ hne => setRow_other w g i c (fun e => hne (by rw [e]))⟩
end

variable {P : Program} (w : World) {ops : Array Oper} {rest : List Oper} {o : Oper} {a : Act} {Q : Exit → Act → World → Prop}

theorem wpList_box_arr (hg : o.guard = none) (d : Tmp) (_ : o.dst = some d) (t : TypeId) (x : Operand) (hop : o.op = .box t x) (v : Value) (c : Array Value) (hv : a.eval x = v) (hc : v.cells = c)
    (h : ∀ w' g, w.heap.size ≤ g → g < w'.heap.size → Row w' g t c → w.grownBy w' none → wpList P ops Q rest (a.put o.dst (.pointer (some ⟨g, 0, none⟩))) w') : wpList P ops Q (o :: rest) a w := by
  refine wpList_plain hg fun K hK => ?_
  subst hc
  have := h (w.alloc (.cells v.cells t)) w.heap.size (Nat.le_refl _) (by simp) (row_new w _ _) (World.grownBy_alloc w _ _)
  unfold Oper.wp
  simp [execOp, hop, hv, Instr.box, newVar, newRow, Result.andThen]
  exact hK _ _ this

theorem wpList_alloc_arr (hg : o.guard = none) (d : Tmp) (_ : o.dst = some d) (t : TypeId) (hop : o.op = .alloc t) (z : Array Value) (hz : ∀ w, (zeroValue t).run P w = .ok (.agg z) w)
    (h : ∀ w' g, w.heap.size ≤ g → g < w'.heap.size → Row w' g t z → w.grownBy w' none → wpList P ops Q rest (a.put o.dst (.pointer (some ⟨g, 0, none⟩))) w') : wpList P ops Q (o :: rest) a w := by
  refine wpList_plain hg fun K hK => ?_
  have := h (w.alloc (.cells z t)) w.heap.size (Nat.le_refl _) (by simp) (row_new w _ _) (World.grownBy_alloc w _ _)
  unfold Oper.wp
  simp [execOp, hop, Instr.alloc, hz, newVar, newRow, Result.andThen, Value.cells]
  exact hK _ _ this

theorem wpList_load_arr (hg : o.guard = none) (t : TypeId) (p : Operand) (hop : o.op = .load t p) (g : Nat) (hp : a.eval p = .pointer (some ⟨g, 0, none⟩)) (t' : TypeId) (c : Array Value) (hrow : Row w g t' c)
    (n : Nat) (e : TypeId) (hu : P.underlying t = some (.array n e)) (hi : (P.info? t).map (·.size) = some c.size)
    (h : wpList P ops Q rest (a.put o.dst (.agg c)) w) : wpList P ops Q (o :: rest) a w := by
  refine wpList_plain hg fun K hK => ?_
  have hl := run_loadVar_row (P := P) w g t' t c (0, 0) _ hrow hu rfl hi
  unfold Oper.wp
  simp only [execOp, hop, hp, Instr.loadAt, Instr.sureAddr, Sem.run_bind, Sem.run_pure, Result.andThen, hl]
  exact hK _ _ h

theorem wpList_store_arr (hg : o.guard = none) (hd : o.dst = none) (t : TypeId) (p x : Operand) (hop : o.op = .store t p x) (g : Nat) (hp : a.eval p = .pointer (some ⟨g, 0, none⟩)) (c' : Array Value) (hx : a.eval x = .agg c')
    (t' : TypeId) (c : Array Value) (hrow : Row w g t' c) (hi : (P.info? t).map (·.size) = some c'.size) (ho : c.size = c'.size) (h1 : c'.all (·.oneCell') = true)
    (h : ∀ w', Row w' g t' c' → w.grownBy w' (some g) → wpList P ops Q rest a w') : wpList P ops Q (o :: rest) a w := by
  refine wpList_plain hg fun K hK => ?_
  have hl := run_storeVar_row (P := P) w g t' t c c' hrow hi ho h1
  have : wpList P ops Q rest (a.put o.dst undef) (w.setRow g c') := by
    rw [hd]
    exact h (w.setRow g c') (setRow_heap w g c c' t' _ hrow) (grown_setRow w g c')
  unfold Oper.wp
  simp only [execOp, hop, hp, hx, Instr.storeAt, Instr.sureAddr, Sem.run_bind, Sem.run_pure, Result.andThen, hl]
  exact hK _ _ this

theorem wpList_store_cell (hg : o.guard = none) (hd : o.dst = none) (t : TypeId) (p x : Operand) (hop : o.op = .store t p x) (g k : Nat) (hp : a.eval p = .pointer (some ⟨g, k, none⟩)) (v : Value) (hx : a.eval x = v) (hv : v.oneCell' = true)
    (t' : TypeId) (c : Array Value) (hrow : Row w g t' c) (hk : k < c.size) (hi : (P.info? t).map (·.size) = some 1)
    (h : ∀ w', Row w' g t' (c.setIfInBounds k v) → w.grownBy w' (some g) → wpList P ops Q rest a w') : wpList P ops Q (o :: rest) a w := by
  refine wpList_plain hg fun K hK => ?_
  have hcell := hrow.cell hk
  have hfro : w.frozen? ⟨g, k, none⟩ = false := by
    have := hrow
    unfold Row at this
    simp [World.frozen?, this]
  have hst : (store (⟨g, k, none⟩ : Addr) v).run P w = .ok () (w.setRow g (c.setIfInBounds k v)) := by
    rw [run_store P w _ v _ hv, hcell]
    simp [hfro, setCell_eq_setRow w g k c t' (0, 0) v hrow]
  have hc : v.cells = #[v] := by cases v <;> first | rfl | cases hv
  have hl : (storeVar t ⟨g, k, none⟩ v).run P w = .ok () (w.setRow g (c.setIfInBounds k v)) := by
    cases hq : P.info? t with
    | none => simp [hq] at hi
    | some i =>
      have hs : i.size = 1 := by simp [hq] at hi; omega
      have hadd : (⟨g, k, none⟩ : Addr).add 0 = ⟨g, k, none⟩ := by unfold Addr.add; simp
      simp [storeVar, sizeOf, typeInfo, hq, hc, hs, storeCells, hadd, hst]
  have : wpList P ops Q rest (a.put o.dst undef) (w.setRow g (c.setIfInBounds k v)) := by
    rw [hd]
    exact h (w.setRow g (c.setIfInBounds k v)) (setRow_heap w g c _ t' _ hrow) (grown_setRow w g _)
  unfold Oper.wp
  simp only [execOp, hop, hp, hx, Instr.storeAt, Instr.sureAddr, Sem.run_bind, Sem.run_pure, Result.andThen, hl]
  exact hK _ _ this

/-- 'x >> k' of 32 bits, k a variable. -/
theorem wpList_shr32 (hg : o.guard = none) (t u : TypeId) (x y : Operand) (hop : o.op = .binOp .shr t x y u) (hu : P.underlying t = some (.int .u32)) (n : Int) (k : Nat) (hk : k ≤ 32) (hx : a.eval x = .int .u32 n) (hy : a.eval y = .int .i64 (k : Int))
    (r : Int) (hr : n / 2 ^ k = r) (h : wpList P ops Q rest (a.put o.dst (.int .u32 r)) w) : wpList P ops Q (o :: rest) a w := by
  refine wpList_plain hg fun K hK => ?_
  subst hr
  have e : Int.fdiv n (2 ^ min ((k : Int)).toNat IntKind.u32.bits) = n / 2 ^ k := by
    have : min ((k : Int).toNat) IntKind.u32.bits = k := by simp [IntKind.bits]; omega
    rw [this, Int.fdiv_eq_ediv_of_nonneg _ (Int.pow_nonneg (by decide))]
  rw [← e] at h
  unfold Oper.wp
  simp [execOp, hop, hx, hy, Op.binOp, Op.shift, Result.andThen]
  exact hK _ _ h

/-- 'x << k', k a variable below the size. -/
theorem wpList_shl (hg : o.guard = none) (t u : TypeId) (x y : Operand) (hop : o.op = .binOp .shl t x y u) (q : IntKind) (n : Int) (k : Nat) (hk : k ≤ q.bits) (hx : a.eval x = .int q n) (hy : a.eval y = .int .i64 (k : Int))
    (r : Int) (hr : q.wrap (n * 2 ^ k) = r) (h : wpList P ops Q rest (a.put o.dst (.int q r)) w) : wpList P ops Q (o :: rest) a w := by
  refine wpList_plain hg fun K hK => ?_
  have e : q.wrap (n * 2 ^ min ((k : Int)).toNat q.bits) = r := by
    have : min ((k : Int).toNat) q.bits = k := by simp; omega
    rw [this, hr]
  rw [← e] at h
  unfold Oper.wp
  simp [execOp, hop, hx, hy, Op.binOp, Op.shift, Result.andThen]
  exact hK _ _ h

/-- A result that lies in a variable of an array's type. -/
theorem ret_cell_arr {fn : Func} {R : Ending → World → Prop} {a : Act} {w : World} (p : Tmp) (t : TypeId) (hres : fn.results = #[.cell p t]) (g : Nat) (hp : a.tmps.getD p undef = .pointer (some ⟨g, 0, none⟩))
    (t' : TypeId) (c : Array Value) (hrow : Row w g t' c) (n : Nat) (e : TypeId) (hu : P.underlying t = some (.array n e)) (hi : (P.info? t).map (·.size) = some c.size) (hd : a.defers = [])
    (hR : R (.returned (.agg c)) w) : bodyPost P fn R .ret a w := by
  refine bodyPost_ret (v := .agg c) ?_ hd hR
  have hl := run_loadVar_row (P := P) w g t' t c (0, 0) _ hrow hu rfl hi
  have hp' : a.tmps[p]?.getD undef = .pointer (some ⟨g, 0, none⟩) := by simpa using hp
  simp only [results, hres]
  simp [asAddr, hp', Sem.run_bind, Result.andThen, hl]

/-- The load of a whole array, and the store of one cell, as steps of a region that draws its order. -/
theorem step_load_arr {K : Act → World → Prop} {E : Prop} (hg : o.guard = none) (t : TypeId) (p : Operand) (hop : o.op = .load t p) (g : Nat) (hp : a.eval p = .pointer (some ⟨g, 0, none⟩)) (t' : TypeId) (c : Array Value) (hrow : Row w g t' c)
    (n : Nat) (e : TypeId) (hu : P.underlying t = some (.array n e)) (hi : (P.info? t).map (·.size) = some c.size)
    (h : K (a.put o.dst (.agg c)) w) : if Region.wanted o (yielded ops a.tmps) = true then Oper.wp P o a w K Q else E := by
  have hw : Region.wanted o (yielded ops a.tmps) = true := by simp [Region.wanted, hg]
  rw [if_pos hw]
  have hl := run_loadVar_row (P := P) w g t' t c (0, 0) _ hrow hu rfl hi
  unfold Oper.wp
  simp only [execOp, hop, hp, Instr.loadAt, Instr.sureAddr, Sem.run_bind, Sem.run_pure, Result.andThen, hl]
  exact h

theorem run_store_row (t : TypeId) (g k : Nat) (v : Value) (hv : v.oneCell' = true) (t' : TypeId) (c : Array Value) (hrow : Row w g t' c) (hk : k < c.size) (hi : (P.info? t).map (·.size) = some 1) :
    (storeVar t ⟨g, k, none⟩ v).run P w = .ok () (w.setRow g (c.setIfInBounds k v)) := by
  have hcell := hrow.cell hk
  have hfro : w.frozen? ⟨g, k, none⟩ = false := by
    have := hrow
    unfold Row at this
    simp [World.frozen?, this]
  have hst : (store (⟨g, k, none⟩ : Addr) v).run P w = .ok () (w.setRow g (c.setIfInBounds k v)) := by
    rw [run_store P w _ v _ hv, hcell]
    simp [hfro, setCell_eq_setRow w g k c t' (0, 0) v hrow]
  have hc : v.cells = #[v] := by cases v <;> first | rfl | cases hv
  cases hq : P.info? t with
  | none => simp [hq] at hi
  | some i =>
    have hs : i.size = 1 := by simp [hq] at hi; omega
    have hadd : (⟨g, k, none⟩ : Addr).add 0 = ⟨g, k, none⟩ := by unfold Addr.add; simp
    simp [storeVar, sizeOf, typeInfo, hq, hc, hs, storeCells, hadd, hst]

theorem step_store_cell {K : Act → World → Prop} {E : Prop} (hg : o.guard = none) (hd : o.dst = none) (t : TypeId) (p x : Operand) (hop : o.op = .store t p x) (g k : Nat) (hp : a.eval p = .pointer (some ⟨g, k, none⟩)) (v : Value) (hx : a.eval x = v) (hv : v.oneCell' = true)
    (t' : TypeId) (c : Array Value) (hrow : Row w g t' c) (hk : k < c.size) (hi : (P.info? t).map (·.size) = some 1)
    (h : ∀ w', Row w' g t' (c.setIfInBounds k v) → w.grownBy w' (some g) → K a w') : if Region.wanted o (yielded ops a.tmps) = true then Oper.wp P o a w K Q else E := by
  have hw : Region.wanted o (yielded ops a.tmps) = true := by simp [Region.wanted, hg]
  rw [if_pos hw]
  have hl := run_store_row (P := P) w t g k v hv t' c hrow hk hi
  have : K (a.put o.dst undef) (w.setRow g (c.setIfInBounds k v)) := by
    rw [hd]
    exact h (w.setRow g (c.setIfInBounds k v)) (setRow_heap w g c _ t' _ hrow) (grown_setRow w g _)
  unfold Oper.wp
  simp only [execOp, hop, hp, hx, Instr.storeAt, Instr.sureAddr, Sem.run_bind, Sem.run_pure, Result.andThen, hl]
  exact this

/-- An element of an array by value. -/
theorem run_index_arr (t e : TypeId) (n : Nat) (k : IntKind) (hu : P.underlying t = some (.array n e)) (he : P.underlying e = some (.int k)) (hs : (P.info? e).map (·.size) = some 1) (c : Array Value) (i : Nat) (hi : i < n) (v : Value) (hc : c[i]? = some v) :
    ∀ w, (Instr.index t (.agg c) (.int .i64 (i : Int))).run P w = .ok v w := by
  intro w
  cases hq : P.info? e with
  | none => simp [hq] at hs
  | some q =>
    have h1 : q.size = 1 := by simp [hq] at hs; omega
    have hr : (0 : Int) ≤ (i : Int) ∧ (i : Int) < (n : Int) := by omega
    simp [Instr.index, run_underlying hu, run_underlying he, asIntOf, hr, part, isAgg, sizeOf, typeInfo, hq, h1, hc, Result.andThen]
    omega
end

section
open Go.RowKit

/-- make([]byte, n) for a length that is a natural number. -/
theorem mk_bytes (w : World) (n : Nat) (hn : n ≤ 281474976710656) : (Instr.makeSlice 37 (.int .i64 (n : Int)) (.int .i64 (n : Int))).run Tryz.prog w =
    .ok (.slice (some ⟨w.heap.size, 0, none⟩) n n) (w.alloc (.cells (zeros n) 5)) := by
  obtain ⟨i, hi, hz0, hz1, hz2⟩ := info_parts infoU8
  have h := run_make (P := Tryz.prog) w 37 5 i (.int .u8 0) tyBs hi hz0 .i64 .i64 n n (by omega) (by omega) (by rw [hz2]; omega) (by omega)
  rw [hz1] at h
  simpa [made_u8, Value.cells] using h

theorem wpList_make_bytes (w : World) {ops : Array Oper} {rest : List Oper} {o : Oper} {a : Act} {Q : Exit → Act → World → Prop}
    (hg : o.guard = none) (l c : Operand) (hop : o.op = Op.makeSlice 37 l c) (n : Nat) (hl : a.eval l = .int .i64 (n : Int)) (hc : a.eval c = .int .i64 (n : Int)) (hn : n ≤ 281474976710656)
    (h : ∀ w' g, w.heap.size ≤ g → g < w'.heap.size → Row w' g 5 (zeros n) → w.grownBy w' none → wpList Tryz.prog ops Q rest (a.put o.dst (.slice (some ⟨g, 0, none⟩) n n)) w') : wpList Tryz.prog ops Q (o :: rest) a w := by
  refine wpList_plain hg fun K hK' => ?_
  have hrun := mk_bytes w n hn
  have := h (w.alloc (.cells (zeros n) 5)) w.heap.size (Nat.le_refl _) (by simp) (row_new w _ _) (World.grownBy_alloc w _ _)
  unfold Oper.wp
  simp [execOp, hop, hl, hc, hrun, Result.andThen]
  exact hK' _ _ this

/-- The cells of a slice of bytes of its own. -/
def Own8 (w : World) (g cap n : Nat) (l : List UInt8) : Prop := ∃ cur, Row w g 5 cur ∧ cur.size = cap ∧ n ≤ cap ∧ cur.toList.take n = l.map bv
theorem Own8.of {w : World} {base n : Nat} {v : Value} {l : List UInt8} (h : w.ownsRow base 5 1 v n (l.map bv)) (hn : 0 < n) : ∃ g cap, v = .slice (some ⟨g, 0, none⟩) n cap ∧ base ≤ g ∧ Own8 w g cap n l := by
  rcases h.2 with ⟨rfl, h0⟩ | ⟨g, cap, cur, rfl, hb, hg, hnc, _, hsz, htake⟩
  · omega
  · exact ⟨g, cap, rfl, hb, cur, hg, by omega, hnc, by simpa using htake⟩
theorem Own8.len {w : World} {g cap n : Nat} {l : List UInt8} (h : Own8 w g cap n l) : l.length = n := by
  obtain ⟨cur, hr, hs, hnc, ht⟩ := h
  have := congrArg List.length ht; simp at this; omega
theorem Own8.cell {w : World} {g cap n : Nat} {l : List UInt8} (h : Own8 w g cap n l) {j : Nat} (hj : j < n) : w.cell? ⟨g, j, none⟩ = some (.int .u8 ((l.getD j 0).toNat : Int)) := by
  have hlen := h.len
  obtain ⟨cur, hr, hs, hnc, ht⟩ := h
  have hjc : j < cur.size := by omega
  rw [hr.cell hjc]
  have := congrArg (fun x => x[j]?) ht
  simp only [List.getElem?_take, hj, if_true, List.getElem?_map] at this
  rw [List.getElem?_eq_getElem (by omega : j < l.length)] at this
  simp only [Option.map_some, bv_eq] at this
  rw [List.getD_eq_getElem?_getD, List.getElem?_eq_getElem (by omega : j < l.length), Option.getD_some, ← this]
  simp [hjc]
theorem Own8.frozen {w : World} {g cap n : Nat} {l : List UInt8} (h : Own8 w g cap n l) (j : Nat) : w.frozen? ⟨g, j, none⟩ = false := by
  obtain ⟨cur, hrow, _⟩ := h
  unfold Row at hrow
  simp [World.frozen?, hrow]
theorem Own8.has {w : World} {g cap n : Nat} {l : List UInt8} (h : Own8 w g cap n l) : Has w w.heap.size (some ⟨g, 0, none⟩) n (l.map bv) := by
  have hl := h.len
  refine ⟨by simpa using hl, fun _ => ⟨g, 0, rfl, ?_, fun j hj => ?_⟩⟩
  · obtain ⟨cur, hr, _⟩ := h; exact hr.lt
  · rw [Nat.zero_add, h.cell (by simp at hj; omega)]
    have hjl : j < l.length := by simpa using hj
    rw [List.getElem_map, bv_eq, List.getD_eq_getElem?_getD, List.getElem?_eq_getElem hjl, Option.getD_some]
theorem Own8.set {w w' : World} {g cap n : Nat} {l : List UInt8} (h : Own8 w g cap n l) {j : Nat} (_ : j < n) (b : UInt8)
    (hw : ∀ cur, Row w g 5 cur → Row w' g 5 (cur.setIfInBounds j (.int .u8 (b.toNat : Int)))) : Own8 w' g cap n (l.set j b) := by
  obtain ⟨cur, hr, hs, hnc, ht⟩ := h
  refine ⟨_, hw cur hr, by simpa using hs, hnc, ?_⟩
  rw [Array.toList_setIfInBounds, List.take_set, ht, List.map_set]
  rfl
theorem Own8.set_cell {w : World} {g cap n : Nat} {l : List UInt8} (h : Own8 w g cap n l) {j : Nat} (hj : j < n) (b : UInt8) (v : Int) (hv : v = (b.toNat : Int)) : Own8 (w.setCell ⟨g, j, none⟩ (.int .u8 v)) g cap n (l.set j b) := by
  subst hv
  refine h.set hj b fun cur hr => ?_
  unfold Row
  rw [setCell_eq_setRow w g j cur _ (0, 0) _ hr]
  exact setRow_heap w g cur _ _ _ hr
theorem Own8.zeros {w : World} {g n : Nat} (h : Row w g 5 (zeros n)) : Own8 w g n n (List.replicate n 0) :=
  ⟨_, h, by simp [Proofs.YtngomoolmncbaaaGreat.zeros], Nat.le_refl _, by simp [Proofs.YtngomoolmncbaaaGreat.zeros, bv]⟩

/-- Filled one by one. -/
def filled (l : List UInt8) (k : Nat) : List UInt8 := l.take k ++ List.replicate (l.length - k) 0
theorem filled_zero (l : List UInt8) : filled l 0 = List.replicate l.length 0 := by simp [filled]
theorem filled_all (l : List UInt8) : filled l l.length = l := by simp [filled]
theorem filled_set (l : List UInt8) (k : Nat) (h : k < l.length) : (filled l k).set k l[k] = filled l (k + 1) := by
  unfold filled
  rw [List.set_append_right _ _ (by simp; omega), List.take_succ_eq_append_getElem h]
  simp only [List.length_take, List.append_assoc]
  rw [show l.length - k = (l.length - (k + 1)) + 1 by omega, show k - min k l.length = 0 by omega]
  simp [List.replicate_succ]
end

end Go.Proofs.YtngomoolmncbaaaGreat
