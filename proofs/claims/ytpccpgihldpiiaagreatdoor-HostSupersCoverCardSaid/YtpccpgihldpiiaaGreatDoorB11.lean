/-
What is asked of package label's functions, in plain words; awake of layer 13.
The powers of ten that Go's own library reads lie in the world; what is made beside them leaves them there.
Contract of FromInt of the reference of layer 1.
Types of lists of strings; no function of the program.
Contract of Split of the reference of layer 1.
Lists of strings in memory: no function of the program.
Contracts of decimal and Parse of the reference of layer 10.
The tables that Go's own library reads to append a number, to the base 10 or 16, lie in the world; what is made beside them leaves them there.
-/
import Derived.Test.YtpccpgihldpiiaaGreatDoorB06
import Derived.Test.YtpccpgihldpiiaaGreatDoorB10
import Derived.Test.YtpccpgihldpiiaaGreatDoorB04
import Derived.Test.YtpccpgihldpiiaaGreatDoorB00
import Derived.Test.YtpccpgihldpiiaaGreatDoorRows
import Derived.Below
import Derived.Lib.LaidTab
import Derived.Lib.ItoaNum
import Derived.Test.YtpccpgihldpiiaaGreatDoorB02
import Derived.Test.YtpccpgihldpiiaaGreatDoorB08
import Derived.Deep.RegionWith
import Derived.Lib.AppendStr
namespace Go.Proofs.YtpccpgihldpiiaaGreatDoor
section
open Go.RowKit

def LbVal (F : FuncId) : Prop := ∀ (s : ByteArray) (w : World), s.size ≤ 1000000000 → Calls Tryz.prog F #[.string s] w fun e w' => e = .returned (.bool (labL (ls s))) ∧ Below w.heap.size w w'
def LbTA (F : FuncId) : Prop := ∀ (s : ByteArray) (w : World), s.size ≤ 1000000000 → U8 w → Calls Tryz.prog F #[.string s] w fun e w' => e = .returned (.tuple #[.string (bs (toA (ls s)).2), .int .i64 ((toA (ls s)).1 : Nat)]) ∧ Below w.heap.size w w'
def LbTU (F : FuncId) : Prop := ∀ (s : ByteArray) (w : World), s.size ≤ 1000000000 → Calls Tryz.prog F #[.string s] w fun e w' => e = .returned (.tuple #[.string (bs (toU (ls s)).2), .int .i64 ((toU (ls s)).1 : Nat)]) ∧ Below w.heap.size w w'

theorem ex_encB : encB [98, 252, 99, 104, 101, 114] = [98, 99, 104, 101, 114, 45, 107, 118, 97] := by
  unfold encB
  rw [ex_ds]
  show [98, 99, 104, 101, 114] ++ ([45] ++ digsOf [745] 72 5 true) = _
  rw [digsOf, ex_gen, digsOf]
  rfl
def exB : List UInt8 := [66, 195, 188, 99, 104, 101, 114]
def exX : List UInt8 := [120, 110, 45, 45, 98, 99, 104, 101, 114, 45, 107, 118, 97]
theorem ex_lab : labL exX = true := by
  have hd : decL [98, 99, 104, 101, 114, 45, 107, 118, 97] = .ok [98, 252, 99, 104, 101, 114] := by kernel_rfl
  have hp : propL [98, 99, 104, 101, 114, 45, 107, 118, 97] = true := by
    unfold propL
    rw [hd]
    simp only []
    rw [ex_encB]
    decide
  unfold labL
  rw [show exX.drop 4 = [98, 99, 104, 101, 114, 45, 107, 118, 97] from rfl, hp, Bool.or_true, Bool.and_true]
  decide +kernel
theorem ex_toA : toA exB = (0, exX) := by
  have h1 : ptsL exB = some [66, 252, 99, 104, 101, 114] := by kernel_rfl
  have h2 : toAOut exB [66, 252, 99, 104, 101, 114] = exX := by
    unfold toAOut
    rw [if_pos (by decide), show [66, 252, 99, 104, 101, 114].map lowP = [98, 252, 99, 104, 101, 114] from by decide, ex_encB]
    rfl
  unfold toA
  rw [h1]
  simp only [h2]
  rw [if_neg (by decide), if_pos ex_lab]
theorem ex_toU : toU exX = (0, [98, 195, 188, 99, 104, 101, 114]) := by
  have hd : decL [98, 99, 104, 101, 114, 45, 107, 118, 97] = .ok [98, 252, 99, 104, 101, 114] := by kernel_rfl
  unfold toU
  rw [if_pos ex_lab]
  unfold toUOut toUOut.puV'
  rw [if_pos (by decide), show exX.drop 4 = [98, 99, 104, 101, 114, 45, 107, 118, 97] from rfl, hd]
  decide +kernel
theorem ex_no : toA [45, 97] = (14, []) := by
  have h1 : ptsL [45, 97] = some [45, 97] := by kernel_rfl
  have h2 : toAOut [45, 97] [45, 97] = [45, 97] := by decide +kernel
  unfold toA
  rw [h1]
  simp only [h2]
  rw [if_neg (by decide), if_neg (by decide +kernel)]
theorem ex_val : labL [97, 95, 49] = true := by decide +kernel
end

section
open Go.RowKit

/-- The variable's name. -/
def tabN : String := Rows.hostParseMatchesSpecRow.named.head (List.cons_ne_nil _ _)
/-- The variable holds the powers of ten. -/
def Pow (w : World) : Prop := Lib.TabIs Tryz.prog w tabN .u64 Lib.pow10Tab
theorem var_below {P : Program} {w w' : World} {n : String} {cs : Array Value} (h : w.var? P n = some cs) (hb : Below w.heap.size w w') : w'.var? P n = some cs := by
  unfold World.var? at h ⊢
  cases hg : P.globalNamed n with
  | none => rw [hg] at h; exact h
  | some g =>
    rw [hg] at h
    simp only [Option.bind_some] at h ⊢
    by_cases hlt : g < w.heap.size
    · rw [hb.block g hlt]
      exact h
    · rw [Array.getElem?_eq_none (by omega)] at h
      cases h
theorem pow_below {w w' : World} (h : Pow w) (hb : Below w.heap.size w w') : Pow w' := var_below h hb
theorem pow_drew {w : World} (h : Pow w) : Pow w.drew := h
theorem pow_drewN {w : World} (h : Pow w) (k : Nat) : Pow (w.drewN k) := h
end

section
open Go.RowKit

theorem dec_length_le : ∀ (k u : Nat), 0 < k → u < 10 ^ k → (Lib.decDigits u).length ≤ k
  | 0, _, h, _ => by omega
  | k + 1, u, _, hu => by
    by_cases h : u < 10
    · rw [Lib.decDigits_one h]; simp
    · rw [dec_step u h, List.length_append]
      rcases Nat.eq_zero_or_pos k with h0 | h0
      · subst h0; simp at hu; omega
      · have := dec_length_le k (u / 10) h0 (by rw [Nat.pow_succ] at hu; omega)
        simp only [List.length_cons, List.length_nil]
        omega
theorem dec_size15 (u : Nat) (h : u ≤ 1000000000000000) : (bs (Lib.decDigits u)).size ≤ 16 := by
  rw [bs_size]
  exact dec_length_le 16 u (by omega) (by omega)

/-- string(b) of one byte. -/
theorem str_one (w : World) (b : Nat) (y : Int) (c : UInt8) (hy : y = (c.toNat : Int)) (h : w.cell? ⟨b, 0, none⟩ = some (.int .u8 y)) :
    (convert 40 9 (.slice (some ⟨b, 0, none⟩) 1 1)).run Tryz.prog w = .ok (.string (bs [c])) w := by
  have e := run_convert_bytes_back (P := Tryz.prog) w 40 9 5 ⟨b, 0, none⟩ 1 [c] tyBs tyU8 tyStr (fun j hj => by
    match j, hj with
    | 0, _ => rw [show (⟨b, 0, none⟩ : Addr).add 0 = ⟨b, 0, none⟩ from rfl, h, hy]; rfl)
  exact e
theorem str_new (w : World) (y : Int) (c : UInt8) (hy : y = (c.toNat : Int)) :
    (convert 40 9 (.slice (some ⟨w.heap.size, 0, none⟩) 1 1)).run Tryz.prog (w.alloc (.cells #[.int .u8 y] 5)) = .ok (.string (bs [c])) (w.alloc (.cells #[.int .u8 y] 5)) :=
  str_one _ _ y c hy (by rw [World.cell?_alloc_at _ _ _ _ rfl]; rfl)

theorem dec_big (z : Int) (h : ¬ z < 10) : Lib.decDigits z.toNat = Lib.decDigits (z / 10).toNat ++ [UInt8.ofNat (48 + (z % 10).toNat)] := by
  rw [dec_step _ (by omega), show z.toNat / 10 = (z / 10).toNat by omega, show z.toNat % 10 = (z % 10).toNat by omega]

attribute [local irreducible] wpAny in
set_option maxHeartbeats 2000000 in
theorem fromInt_aux (N : Nat) : ∀ (z : Int), 0 ≤ z → z ≤ 1000000000000000 → z.toNat ≤ N → ∀ w : World,
    Calls Tryz.prog 111 #[.int .i64 z] w fun e w' => e = .returned (.string (bs (Lib.decDigits z.toNat))) ∧ Below w.heap.size w w' := by
  induction N with
  | zero =>
    intro z h0 h1 hN w
    obtain rfl : z = 0 := by omega
    have hcv := str_new w 48 48 rfl
    have HE : Hid (bs (Lib.decDigits (Int.toNat 0)) = bs [48]) := by refine Lib.hid ?_; rw [show Int.toNat 0 = 0 from rfl, Lib.decDigits_one (by omega)]; rfl
    rw [HE.out]
    go_enter Tryz.func111, Tryz.ntmps111
    go_wp2
    go_ret
    exact ⟨rfl, (Below.refl _ _).alloc (Nat.le_refl _) _⟩
  | succ N ih =>
    intro z h0 h1 hN w
    by_cases hz : z < 10
    · obtain ⟨c, hc⟩ : ∃ c, UInt8.ofNat (48 + z.toNat) = c := ⟨_, rfl⟩
      have hcv := str_new w (48 + z) c (by rw [← hc, digit_of _ (by omega)]; omega)
      have HE : Hid (bs (Lib.decDigits z.toNat) = bs [c]) := by refine Lib.hid ?_; rw [Lib.decDigits_one (by omega), hc]
      rw [HE.out]
      clear ih hN hc
      go_enter Tryz.func111, Tryz.ntmps111
      go_wp2
      go_ret
      exact ⟨rfl, (Below.refl _ _).alloc (Nat.le_refl _) _⟩
    · have HE := Lib.hid (congrArg bs (dec_big z hz))
      obtain ⟨q, hq⟩ : ∃ q, z / 10 = q := ⟨_, rfl⟩
      obtain ⟨r, hr⟩ : ∃ r, z % 10 = r := ⟨_, rfl⟩
      have hq0 : 0 ≤ q := by omega
      have hq1 : q ≤ 1000000000000000 := by omega
      have hqN : q.toNat ≤ N := by omega
      have hr0 : 0 ≤ r := by omega
      have hr1 : r < 10 := by omega
      rw [hq, hr] at HE
      obtain ⟨c, hc⟩ : ∃ c, UInt8.ofNat (48 + r.toNat) = c := ⟨_, rfl⟩
      have hcr : 48 + r = (c.toNat : Int) := by rw [← hc, digit_of _ (by omega)]; omega
      rw [hc] at HE
      obtain ⟨D, hD⟩ : ∃ D, bs (Lib.decDigits q.toNat) = D := ⟨_, rfl⟩
      have HA : Hid (bs (Lib.decDigits z.toNat) = D ++ bs [c]) := by
        refine Lib.hid ?_
        rw [HE.out, ← hD]
        apply ls_inj
        rw [ls_append, ls_bs, ls_bs, ls_bs]
      rw [HA.out]
      have hsz : ¬ (9223372036854775807 < D.size + (bs [c]).size) := by
        have := dec_size15 q.toNat (by omega)
        rw [hD] at this
        rw [bs_size]
        simp only [List.length_cons, List.length_nil]
        omega
      have ihq := ih q hq0 hq1 hqN
      rw [hD] at ihq
      have hstr := fun W => str_new W (48 + r) c hcr
      have hone := fun W b => str_one W b (48 + r) c hcr
      have hcell : ∀ W : World, (W.alloc (.cells #[.int .u8 (48 + r)] 5)).cell? ⟨W.heap.size, 0, none⟩ = some (.int .u8 (48 + r)) := fun W => by rw [World.cell?_alloc_at _ _ _ _ rfl]; rfl
      have hsd := hstr w.drew
      have HZ := Lib.hid hD
      clear ih hN hD HE HA hc hcr
      go_enter Tryz.func111, Tryz.ntmps111
      go_wp2
      refine wp_region_any (by kernel_rfl) ?_
      change wpAny _ _ _ _ _ _ _ (World.drew _)
      refine any_take (i := 0) (v := ?_) rfl (by kernel_rfl) (by kernel_rfl) (by kernel_rfl) (fun _ _ _ h => h) (by exact rfl) (by intro w; go_simp; try with_reducible rfl) (fun K hK => ?_); go_simp; refine hK _ _ ?_; clear hK K
      refine any_take (i := 1) (v := ?_) rfl (by kernel_rfl) (by kernel_rfl) (by kernel_rfl) (fun _ _ _ h => h) (by exact rfl) (by intro w; go_simp; try with_reducible rfl) (fun K hK => ?_); go_simp; refine hK _ _ ?_; clear hK K
      refine any_take (i := 3) (v := ?_) rfl (by kernel_rfl) (by kernel_rfl) (by kernel_rfl) (fun _ _ _ h => h) (by exact rfl) (by intro w; go_simp; try with_reducible rfl) (fun K hK => ?_); go_simp; refine hK _ _ ?_; clear hK K
      refine any_take (i := 4) (v := ?_) rfl (by kernel_rfl) (by kernel_rfl) (by kernel_rfl) (fun _ _ _ h => h) (by exact rfl) (by intro w; go_simp; try with_reducible rfl) (fun K hK => ?_); go_simp; refine hK _ _ ?_; clear hK K
      refine any_take (i := 5) (v := ?_) rfl (by kernel_rfl) (by kernel_rfl) (by kernel_rfl) (fun _ _ _ h => h) (by exact rfl) (by intro w; go_simp; try with_reducible rfl) (fun K hK => ?_); go_simp; refine hK _ _ ?_; clear hK K
      refine any_take (i := 6) (v := ?_) rfl (by kernel_rfl) (by kernel_rfl) (by kernel_rfl) (fun _ _ _ h => h) (by exact rfl) (by intro w; go_simp; try with_reducible rfl) (fun K hK => ?_); go_simp; refine hK _ _ ?_; clear hK K
      have e1 : IntKind.i64.wrap (z.tdiv 10) = q := by rw [Int.tdiv_eq_ediv_of_nonneg h0, hq, IntKind.wrap_i64]; omega
      have e2 : z.tmod 10 = r := by rw [Int.tmod_eq_emod_of_nonneg h0, hr]
      have e3 : IntKind.i64.wrap (48 + r) = 48 + r := by rw [IntKind.wrap_i64]; omega
      have e4 : IntKind.u8.wrap (48 + r) = 48 + r := by rw [IntKind.wrap_u8]; omega
      rw [e1, e2, e3, e4]
      clear hq hr e1 e2 e3 e4
      refine wpAny_ready (rs := [2, 7]) (by kernel_rfl) (by simp) ?_
      refine AllReady.cons rfl (fun K hK => ?_) (AllReady.cons rfl (fun K hK => ?_) AllReady.nil)
      · go_simp
        refine (ihq _).mono ?_
        rintro e w1 ⟨rfl, hb⟩
        have hs1 := hstr w1
        refine hK _ _ ?_
        clear hK K
        refine wpAny_ready (rs := [7]) (by kernel_rfl) (by simp) ?_
        refine AllReady.cons rfl (fun K hK => ?_) AllReady.nil
        go_simp
        refine hK _ _ ?_
        clear hK K
        refine wpAny_ready (rs := [8]) (by kernel_rfl) (by simp) ?_
        refine AllReady.cons rfl (fun K hK => ?_) AllReady.nil
        go_simp
        refine hK _ _ ?_
        clear hK K
        refine any_take (i := 9) (v := ?_) rfl (by kernel_rfl) (by kernel_rfl) (by kernel_rfl) (fun _ _ _ h => h) (by exact rfl) (by intro w; go_simp; try with_reducible rfl) (fun K hK => ?_); go_simp; refine hK _ _ ?_; clear hK K
        refine wpAny_ready (rs := [10]) (by kernel_rfl) (by simp) ?_
        refine AllReady.cons rfl (fun K hK => ?_) AllReady.nil
        go_simp
        refine hK _ _ ?_
        clear hK K
        refine wpAny_done (by kernel_rfl) ?_ _
        go_wp2
        go_ret
        exact ⟨rfl, (((Below.refl w.heap.size w).drew.trans (hb.mono (Nat.le_refl _))).alloc hb.size _)⟩
      · go_simp
        refine hK _ _ ?_
        clear hK K
        refine wpAny_ready (rs := [2, 8]) (by kernel_rfl) (by simp) ?_
        refine AllReady.cons rfl (fun K hK => ?_) (AllReady.cons rfl (fun K hK => ?_) AllReady.nil)
        · go_simp
          refine (ihq _).mono ?_
          rintro e w1 ⟨rfl, hb⟩
          have hs1 := hone w1 w.heap.size (by exact (hb.cell (by simp)).trans (hcell w.drew))
          refine hK _ _ ?_
          clear hK K
          refine wpAny_ready (rs := [8]) (by kernel_rfl) (by simp) ?_
          refine AllReady.cons rfl (fun K hK => ?_) AllReady.nil
          go_simp
          refine hK _ _ ?_
          clear hK K
          refine any_take (i := 9) (v := ?_) rfl (by kernel_rfl) (by kernel_rfl) (by kernel_rfl) (fun _ _ _ h => h) (by exact rfl) (by intro w; go_simp; try with_reducible rfl) (fun K hK => ?_); go_simp; refine hK _ _ ?_; clear hK K
          refine wpAny_ready (rs := [10]) (by kernel_rfl) (by simp) ?_
          refine AllReady.cons rfl (fun K hK => ?_) AllReady.nil
          go_simp
          refine hK _ _ ?_
          clear hK K
          refine wpAny_done (by kernel_rfl) ?_ _
          go_wp2
          go_ret
          exact ⟨rfl, (((Below.refl w.heap.size w).drew.alloc (Nat.le_refl _) _).trans (hb.mono (by simp)))⟩
        · go_simp
          refine hK _ _ ?_
          clear hK K
          refine wpAny_ready (rs := [2]) (by kernel_rfl) (by simp) ?_
          refine AllReady.cons rfl (fun K hK => ?_) AllReady.nil
          go_simp
          refine (ihq _).mono ?_
          rintro e w1 ⟨rfl, hb⟩
          refine hK _ _ ?_
          clear hK K
          refine any_take (i := 9) (v := ?_) rfl (by kernel_rfl) (by kernel_rfl) (by kernel_rfl) (fun _ _ _ h => h) (by exact rfl) (by intro w; go_simp; try with_reducible rfl) (fun K hK => ?_); go_simp; refine hK _ _ ?_; clear hK K
          refine wpAny_ready (rs := [10]) (by kernel_rfl) (by simp) ?_
          refine AllReady.cons rfl (fun K hK => ?_) AllReady.nil
          go_simp
          refine hK _ _ ?_
          clear hK K
          refine wpAny_done (by kernel_rfl) ?_ _
          go_wp2
          go_ret
          exact ⟨rfl, (((Below.refl w.heap.size w).drew.alloc (Nat.le_refl _) _).trans (hb.mono (by simp)))⟩

theorem refFromInt_any (z : Int) (h0 : 0 ≤ z) (h1 : z ≤ 1000000000000000) (w : World) :
    Calls Tryz.prog 111 #[.int .i64 z] w fun e w' => e = .returned (.string (bs (Lib.decDigits z.toNat))) ∧ Below w.heap.size w w' := fromInt_aux z.toNat z h0 h1 (Nat.le_refl _) w
end

section
open Go.RowKit

theorem tyStrs : Tryz.prog.underlying 35 = some (.slice 9) := by kernel_rfl
theorem infoStr : (Tryz.prog.info? 9).map (fun i => (i.zero, i.size, i.bytes)) = some (some (.string ByteArray.empty), 1, 16) := by kernel_rfl

def wv (acc : List (List UInt8)) : List Value := acc.map fun l => .string (bs l)
theorem wv_snoc (acc : List (List UInt8)) (l : List UInt8) : wv acc ++ [.string (bs l)] = wv (acc ++ [l]) := by simp [wv]
theorem wv_length (acc : List (List UInt8)) : (wv acc).length = acc.length := by simp [wv]
theorem wv_get (acc : List (List UInt8)) (k : Nat) (h : k < acc.length) : (wv acc)[k]'(by rw [wv_length]; exact h) = .string (bs acc[k]) := by simp [wv]
end

section
open Go.RowKit

/-- A list of strings that the call has made. -/
def ListPost (l : List (List UInt8)) (w : World) (e : Ending) (w' : World) : Prop :=
  ∃ v n, e = .returned v ∧ w'.ownsRow w.heap.size 9 1 v n (wv l) ∧ Below w.heap.size w w'
def SplitAt (c : UInt8) (s : ByteArray) (acc : List (List UInt8)) (cur : List UInt8) (i : Nat) : Prop := acc ++ splitG c ((ls s).drop i) cur = splitL c (ls s)
theorem splitAt_start (c : UInt8) (s : ByteArray) : SplitAt c s [] [] 0 := rfl
theorem drop_ls (s : ByteArray) (i : Nat) (h : i < s.size) : (ls s).drop i = s[i] :: (ls s).drop (i + 1) := by
  rw [List.drop_eq_getElem_cons (by rw [ls_length]; exact h), ls_getE s i h]
  rfl
theorem splitAt_byte {c : UInt8} {s : ByteArray} {acc cur} {i : Nat} (h : SplitAt c s acc cur i) (hi : i < s.size) (hb : s[i] ≠ c) : SplitAt c s acc (cur ++ [s[i]]) (i + 1) := by
  unfold SplitAt at h ⊢
  rw [drop_ls s i hi, splitG, if_neg hb] at h
  exact h
theorem splitAt_dot {c : UInt8} {s : ByteArray} {acc cur} {i : Nat} (h : SplitAt c s acc cur i) (hi : i < s.size) (hb : s[i] = c) : SplitAt c s (acc ++ [cur]) [] (i + 1) := by
  unfold SplitAt at h ⊢
  rw [drop_ls s i hi, splitG, if_pos hb] at h
  rw [List.append_assoc]
  exact h
theorem splitAt_end {c : UInt8} {s : ByteArray} {acc cur} (h : SplitAt c s acc cur s.size) : acc ++ [cur] = splitL c (ls s) := by
  unfold SplitAt at h
  rw [drop_ls_all, splitG] at h
  exact h

set_option maxRecDepth 20000 in
set_option maxHeartbeats 2000000 in
theorem refSplit_any (s : ByteArray) (c : UInt8) (w : World) (hs : s.size ≤ 1000000000) :
    Calls Tryz.prog 55 #[.string s, .int .u8 (c.toNat : Int)] w (ListPost (splitL c (ls s)) w) := by
  obtain ⟨i9, hi9, hz0, hz1, hz2⟩ := info_parts infoStr
  obtain ⟨cv, hcv⟩ : ∃ x : Int, x = (c.toNat : Int) := ⟨_, rfl⟩
  have HC := Lib.hid hcv
  rw [← hcv]
  clear hcv
  go_enter Tryz.func55, Tryz.ntmps55
  go_wp2
  go_loopw [5, 6, 7] (fun v f i wr => ∃ (k m : Nat) (acc : List (List UInt8)), m ≤ k ∧ k ≤ s.size + 1 ∧ acc.length ≤ k ∧ i = .int .i64 k ∧ f = .int .i64 m ∧ Hid (k ≤ s.size → SplitAt c s acc (sub s m k) k) ∧ Hid (s.size < k → acc = splitL c (ls s)) ∧
      wr.ownsRow w.heap.size 9 1 v acc.length (wv acc) ∧ Below w.heap.size w wr) (fun _ _ i _ => s.size + 1 - (intOf i).toNat)
  case atStart => exact ⟨0, 0, [], Nat.le_refl _, by omega, Nat.le_refl _, rfl, rfl, Lib.hid (fun _ => by rw [sub_self]; exact splitAt_start c s), Lib.hid (fun h => by omega), World.ownsRow_nil _ _ _ _, Below.refl _ _⟩
  case round =>
    obtain ⟨k, m, acc, hmk, hk, hal, rfl, rfl, HAT, HEND, hown, hb⟩ := hrel
    by_cases hlt : k < s.size
    · by_cases hsp : s[k] = c
      · have hq : ((s[k].toNat : Int) == cv) = true := by rw [HC.out, hsp]; simp
        have HSP := Lib.hid hsp
        clear hsp
        go_wp2_with (at_builtin; refine wpList_app_one _ rfl _ _ 35 rfl w.heap.size 9 i9 (.string ByteArray.empty) 16 tyStrs hi9 hz0 hz1 hz2 rfl _ (by exact rfl) _ _ _ (by exact rfl) hown (by exact rfl) (by unfold maxLen; omega) (by omega) hb (Nat.le_refl _) ?_; intro v' w' hown' hb' _)
        go_roundw
        case rel =>
          refine ⟨k + 1, k + 1, acc ++ [sub s m k], Nat.le_refl _, by omega, by simp; omega, by go_num, by go_num, Lib.hid (fun _ => ?_), Lib.hid (fun h => by omega), ?_, hb'⟩
          · rw [sub_self]; exact splitAt_dot (HAT.out (by omega)) hlt HSP.out
          · rw [← wv_snoc, ← sub_extract]; simpa using hown'
        case measure => simp [intOf]; omega
      · have hq : ((s[k].toNat : Int) == cv) = false := by
          rw [HC.out, beq_eq_false_iff_ne]
          exact fun e => hsp (UInt8.toNat_inj.1 (by omega))
        have HSP : Hid (s[k] ≠ c) := Lib.hid hsp
        clear hsp
        go_wp2
        go_roundw
        case rel =>
          refine ⟨k + 1, m, acc, by omega, by omega, by omega, by go_num, rfl, Lib.hid (fun _ => ?_), Lib.hid (fun h => by omega), hown, hb⟩
          rw [sub_succ s m k hmk hlt]; exact splitAt_byte (HAT.out (by omega)) hlt HSP.out
        case measure => simp [intOf]; omega
    · by_cases hle : k ≤ s.size
      · obtain rfl : k = s.size := by omega
        go_wp2_with (at_builtin; refine wpList_app_one _ rfl _ _ 35 rfl w.heap.size 9 i9 (.string ByteArray.empty) 16 tyStrs hi9 hz0 hz1 hz2 rfl _ (by exact rfl) _ _ _ (by exact rfl) hown (by exact rfl) (by unfold maxLen; omega) (by omega) hb (Nat.le_refl _) ?_; intro v' w' hown' hb' _)
        go_roundw
        case rel =>
          refine ⟨s.size + 1, s.size + 1, acc ++ [sub s m s.size], Nat.le_refl _, by omega, by simp; omega, by go_num, by go_num, Lib.hid (fun h => by omega), Lib.hid (fun _ => splitAt_end (HAT.out (Nat.le_refl _))), ?_, hb'⟩
          rw [← wv_snoc, ← sub_extract]; simpa using hown'
        case measure => simp [intOf]
      · obtain rfl : k = s.size + 1 := by omega
        have HE : Hid (acc = splitL c (ls s)) := Lib.hid (HEND.out (by omega))
        go_wp2
        go_ret
        exact ⟨_, _, rfl, by rw [← HE.out]; exact hown, hb⟩
end

section
open Go.RowKit

/-- A list of strings, as a slice. -/
def StrsPost (l : List (List UInt8)) (w : World) (e : Ending) (w' : World) : Prop :=
  ∃ A c, e = .returned (.slice A l.length c) ∧ l.length ≤ c ∧ Has w' w'.heap.size A l.length (wv l) ∧ Below w.heap.size w w'

theorem str_cell {w : World} {B n : Nat} {A : Option Addr} {l : List (List UInt8)} (h : Has w B A n (wv l)) (k : Nat) (hk : k < n) : ∃ b off, A = some ⟨b, off, none⟩ ∧ w.cell? ⟨b, off + k, none⟩ = some (.string (bs (l.getD k []))) := by
  have hl : (wv l).length = n := h.1
  rw [wv_length] at hl
  obtain ⟨b, off, e, _, hc⟩ := h.at_ hk
  refine ⟨b, off, e, ?_⟩
  rw [hc, wv_get l k (by omega), List.getD_eq_getElem?_getD, List.getElem?_eq_getElem (by omega), Option.getD_some]

theorem getD_last {α : Type _} (l : List α) (d : α) (_h : 0 < l.length) : l.getD (l.length - 1) d = l.getLastD d := by
  rw [List.getLastD_eq_getLast?, List.getLast?_eq_getElem?, List.getD_eq_getElem?_getD]
theorem last_nil {l : List (List UInt8)} (h : 0 < l.length) : (l.getLast? = some [] ↔ l.getD (l.length - 1) [1] = []) := by
  rw [List.getLast?_eq_getElem?, List.getD_eq_getElem?_getD, List.getElem?_eq_getElem (by omega)]
  simp
theorem bs_nil_iff (l : List UInt8) : ((bs l).toList == ([] : List UInt8)) = decide (l = []) := by
  rw [toList_ls, ls_bs]
  cases l <;> rfl
end

section
open Go.RowKit

def dV (l : List UInt8) : Int := ((decV l).getD 0 : Nat)
def dK (l : List UInt8) : Bool := (decV l).isSome
theorem dec_yes {l : List UInt8} {k : Nat} (h : Lib.decDigits k = l) (hk : k < 256) : dV l = (k : Int) ∧ dK l = true := by
  unfold dV dK
  rw [← h, decV_dec k hk]
  exact ⟨rfl, rfl⟩
theorem dec_no {l : List UInt8} (h : ∀ k, k < 256 → Lib.decDigits k ≠ l) : dV l = 0 ∧ dK l = false := by
  have e : decV l = none := by
    cases hx : decV l with
    | none => rfl
    | some n =>
      have := decV_some hx
      exact absurd this.2.symm (h n this.1)
  unfold dV dK
  rw [e]
  exact ⟨rfl, rfl⟩
theorem dV_range (l : List UInt8) : 0 ≤ dV l ∧ dV l ≤ 255 := by
  unfold dV
  cases hx : decV l with
  | none => exact ⟨by simp, by simp⟩
  | some n => have := (decV_some hx).1; simp only [Option.getD_some]; omega

set_option maxRecDepth 20000 in
set_option maxHeartbeats 1000000 in
theorem refDecimal_any (s : ByteArray) (w : World) :
    Calls Tryz.prog 170 #[.string s] w fun e w' => e = .returned (.tuple #[.int .i64 (dV (ls s)), .bool (dK (ls s))]) ∧ Below w.heap.size w w' := by
  go_enter Tryz.func170, Tryz.ntmps170
  go_wp2
  go_loopw [4] (fun i wr => ∃ k : Nat, k ≤ 256 ∧ i = .int .i64 k ∧ Hid (∀ j, j < k → Lib.decDigits j ≠ ls s) ∧ Below w.heap.size w wr) (fun i _ => 256 - (intOf i).toNat)
  case atStart => exact ⟨0, Nat.zero_le _, rfl, Lib.hid (fun j h => by omega), Below.refl _ _⟩
  case round =>
    obtain ⟨k, hk, rfl, HN, hb⟩ := hrel
    by_cases hlt : k < 256
    · have c1 := refFromInt_any (k : Int) (by omega) (by omega)
      have HD : Hid (ls (bs (Lib.decDigits (k : Int).toNat)) = Lib.decDigits k) := by show _ = _; rw [ls_bs]; rfl
      generalize bs (Lib.decDigits (k : Int).toNat) = D at *
      by_cases he : D = s
      · have hq : (D.toList == s.toList) = true := by rw [he]; simp
        have HY := Lib.hid (dec_yes (l := ls s) (k := k) (by rw [← HD.out, he]) hlt)
        clear he
        go_wp2_with (go_at_call 111; refine (c1 _).mono ?_; rintro e w1 ⟨rfl, hb1⟩)
        go_ret2
        exact ⟨by rw [HY.out.1, HY.out.2]; rfl, hb.trans (hb1.mono hb.size)⟩
      · have hq : (D.toList == s.toList) = false := by
          rw [beq_eq_false_iff_ne, toList_ls, toList_ls]
          exact fun e => he (ls_inj e)
        have HY : Hid (Lib.decDigits k ≠ ls s) := Lib.hid (by rw [← HD.out]; exact fun e => he (ls_inj e))
        clear he
        go_wp2_with (go_at_call 111; refine (c1 _).mono ?_; rintro e w1 ⟨rfl, hb1⟩)
        go_roundw
        case rel =>
          refine ⟨k + 1, by omega, by go_num, Lib.hid (fun j h => ?_), hb.trans (hb1.mono hb.size)⟩
          rcases Nat.lt_or_ge j k with h1 | h1
          · exact HN.out j h1
          · obtain rfl : j = k := by omega
            exact HY.out
        case measure => simp [intOf]; omega
    · obtain rfl : k = 256 := by omega
      have HY := Lib.hid (dec_no HN.out)
      go_wp2
      go_ret2
      exact ⟨by rw [HY.out.1, HY.out.2]; rfl, hb⟩

/-- The numbers of parts, one after another. -/
def decF : List (List UInt8) → Nat → Option Nat
  | [], v => some v
  | x :: r, v => match decV x with
    | none => none
    | some n => decF r (v * 256 + n)
theorem parseL_decF (l : List UInt8) : parseL l = if (splitL 46 l).length = 4 then decF (splitL 46 l) 0 else none := by
  unfold parseL four
  generalize splitL 46 l = p
  match p with
  | [] => rfl
  | [_] => rfl
  | [_, _] => rfl
  | [_, _, _] => rfl
  | [a, b, c, d] =>
    simp only [decF, List.length_cons, List.length_nil]
    cases decV a <;> cases decV b <;> cases decV c <;> cases decV d <;> simp
  | _ :: _ :: _ :: _ :: _ :: _ => simp
/-- The address, and whether there is one. -/
def aV (o : Option Nat) : Int := (o.getD 0 : Nat)
def aK (o : Option Nat) : Bool := o.isSome

set_option maxHeartbeats 1000000 in
theorem refParse_any (s : ByteArray) (w : World) (hs : s.size ≤ 1000000000) :
    Calls Tryz.prog 128 #[.string s] w fun e w' => e = .returned (.tuple #[.int .u32 (aV (parseL (ls s))), .bool (aK (parseL (ls s)))]) ∧ Below w.heap.size w w' := by
  have hspl := refSplit_any s 46 w hs
  have hlen := splitL_length 46 (ls s)
  rw [ls_length] at hlen
  have HP := Lib.hid (parseL_decF (ls s))
  generalize splitL 46 (ls s) = P at *
  obtain ⟨n, hn⟩ : ∃ n, n = P.length := ⟨_, rfl⟩
  go_enter Tryz.func128, Tryz.ntmps128
  go_wp2_with fail
  refine hspl.mono ?_
  rintro e w1 ⟨v, m, rfl, hown, hb⟩
  obtain ⟨A, c, rfl, hh, hmc⟩ := Has.of_own hown
  obtain rfl : m = n := by have := hh.1; rw [wv_length] at this; omega
  clear hspl hown
  by_cases h4 : m = 4
  · subst h4
    have HF : Hid (parseL (ls s) = decF P 0) := by show _ = _; rw [HP.out, if_pos hn.symm]
    have HN := Lib.hid hn
    obtain ⟨b, off, rfl, _⟩ := str_cell hh 0 (by omega)
    have HH := Lib.hid hh
    clear hn hh HP
    go_wp2
    go_loopw [5, 6] (fun v i wr => ∃ (k : Nat) (z : Int), k ≤ 4 ∧ i = .int .i64 k ∧ v = .int .u32 z ∧ 0 ≤ z ∧ Hid (z < 256 ^ k) ∧ Hid (decF (P.drop k) z.toNat = parseL (ls s)) ∧ Below w1.heap.size w1 wr) (fun _ i _ => 4 - (intOf i).toNat)
    case atStart => exact ⟨0, 0, Nat.zero_le _, rfl, rfl, by omega, Lib.hid (by decide), Lib.hid HF.out.symm, Below.refl _ _⟩
    case round =>
      obtain ⟨k, z, hk, rfl, rfl, hz0, HZ, HR, hb2⟩ := hrel
      by_cases hlt : k < 4
      · obtain ⟨b', off', e, hcell⟩ := str_cell (HH.out.below hb2) k hlt
        injection e with e
        injection e with e1 e2 _
        subst e1 e2
        have c1 := refDecimal_any (bs (P.getD k []))
        rw [ls_bs] at c1
        have hdr : P.drop k = P.getD k [] :: P.drop (k + 1) := by
          have hk' : k < P.length := by rw [← HN.out]; exact hlt
          rw [List.drop_eq_getElem_cons hk', List.getD_eq_getElem?_getD, List.getElem?_eq_getElem hk', Option.getD_some]
        have HR2 := HR.out
        rw [hdr, decF] at HR2
        have hrng := dV_range (P.getD k [])
        generalize P.getD k [] = x at *
        have HX := Lib.hid HR2
        clear HR2 hdr HR
        cases hx : decV x with
        | none =>
          have e1 : dV x = 0 ∧ dK x = false := by unfold dV dK; rw [hx]; exact ⟨rfl, rfl⟩
          have HQ : Hid (parseL (ls s) = none) := by show _ = _; have := HX.out; rw [hx] at this; exact this.symm
          rw [e1.1, e1.2] at c1
          clear hx e1 hrng
          go_wp2_with (go_at_call 170; refine (c1 _).mono ?_; rintro e w3 ⟨rfl, hb3⟩)
          go_ret2
          exact ⟨by rw [HQ.out]; rfl, hb.trans ((hb2.trans (hb3.mono hb2.size)).mono hb.size)⟩
        | some d =>
          have e1 : dV x = (d : Int) ∧ dK x = true := by unfold dV dK; rw [hx]; exact ⟨rfl, rfl⟩
          have HQ : Hid (decF (P.drop (k + 1)) (z.toNat * 256 + d) = parseL (ls s)) := by show _ = _; have := HX.out; rw [hx] at this; exact this
          rw [e1.1, e1.2] at c1
          rw [e1.1] at hrng
          obtain ⟨dv, hdv⟩ : ∃ v : Int, v = (d : Int) := ⟨_, rfl⟩
          rw [← hdv] at c1 hrng
          have HZ3 : z ≤ 16777215 := by
            have h1 := HZ.out
            have h2 : (256 : Int) ^ k ≤ 256 ^ 3 := by
              have : k = 0 ∨ k = 1 ∨ k = 2 ∨ k = 3 := by omega
              rcases this with rfl | rfl | rfl | rfl <;> decide
            have h3 : (256 : Int) ^ 3 = 16777216 := by decide
            omega
          have HZN : Hid (z * 256 + dv < 256 ^ (k + 1)) := by
            show _ < _
            have h1 := HZ.out
            rw [Int.pow_succ]
            omega
          have HQ2 : Hid (decF (P.drop (k + 1)) (z * 256 + dv).toNat = parseL (ls s)) := by
            show _ = _
            rw [← HQ.out]
            congr 1
            omega
          obtain ⟨hr0, hr1⟩ := hrng
          clear hx e1 hdv
          go_wp2_with (go_at_call 170; refine (c1 _).mono ?_; rintro e w3 ⟨rfl, hb3⟩)
          go_roundw
          case rel => exact ⟨k + 1, z * 256 + dv, by omega, by go_num, by first | rfl | go_num, by omega, HZN, HQ2, hb2.trans (hb3.mono hb2.size)⟩
          case measure => simp [intOf]; omega
      · obtain rfl : k = 4 := by omega
        have HQ : Hid (parseL (ls s) = some z.toNat) := by
          show _ = _
          have h := HR.out
          have hd : P.drop 4 = [] := List.drop_of_length_le (by rw [← HN.out]; omega)
          rw [hd, decF] at h
          exact h.symm
        have HZZ : Hid ((z.toNat : Int) = z) := Lib.hid (by omega)
        go_wp2
        go_ret2
        refine ⟨?_, hb.trans (hb2.mono hb.size)⟩
        rw [HQ.out]
        unfold aV aK
        rw [Option.getD_some, HZZ.out]
        rfl
  · have hne : ((m : Int) != 4) = true := by simp; omega
    have HQ : Hid (parseL (ls s) = none) := by show _ = _; rw [HP.out, if_neg (by omega)]
    clear hn hh h4
    go_wp2
    go_ret2
    exact ⟨by rw [HQ.out]; rfl, hb⟩
end

section
open Go.RowKit

/-- The powers of ten, and the one entry that is read to the base 16. -/
def Pow6 (w : World) : Prop := Pow w ∧ w.cell? ⟨7, 15, none⟩ = some (.int .u8 4)
theorem cell_block {w : World} {b j : Nat} {v : Value} (h : w.cell? ⟨b, j, none⟩ = some v) : b < w.heap.size := by
  by_cases hb : b < w.heap.size
  · exact hb
  · exfalso
    have : w.heap[b]? = none := Array.getElem?_eq_none (by omega)
    simp [World.cell?, this] at h
theorem pow6_below {w w' : World} (h : Pow6 w) (hb : Below w.heap.size w w') : Pow6 w' :=
  ⟨pow_below h.1 hb, (hb.cell (cell_block h.2)).trans h.2⟩
theorem pow6_drew {w : World} (h : Pow6 w) : Pow6 w.drew := h
theorem pow6_drewN {w : World} (h : Pow6 w) (k : Nat) : Pow6 (w.drewN k) := h
end

end Go.Proofs.YtpccpgihldpiiaaGreatDoor
