/-
  The program's Format of package fields.
-/
import Derived.Test.YtmfoegpdjajicaaFeD
import Derived.Lib.AppendStr
namespace Go.Proofs.Ytmfoegpdjajicaa
open Go.RowKit

/-- Bytes and a number, as a function returns them. -/
def FmtB (p : List UInt8 × Int) (w : World) (e : Ending) (w' : World) : Prop :=
  ∃ A c, e = .returned (.tuple #[.slice A p.1.length c, .int .i64 p.2]) ∧ p.1.length ≤ c ∧ (A = none → c = 0) ∧ Has w' w'.heap.size A p.1.length (p.1.map bv) ∧ Below w.heap.size w w'
theorem fmtb_nil {w w' : World} {p : List UInt8 × Int} {r : Int} (h : p = ([], r)) (hb : Below w.heap.size w w') : FmtB p w (.returned (.tuple #[.slice none 0 0, .int .i64 r])) w' := by
  rw [h]
  exact ⟨none, 0, rfl, Nat.le_refl _, fun _ => rfl, Has.nil _ _ _, hb⟩
theorem fmtb_own {w w' : World} {p : List UInt8 × Int} {t : List UInt8} {base n : Nat} {v : Value} (h : p = (t, 0)) (hown : w'.ownsRow base 5 1 v n (t.map bv)) (hb : Below w.heap.size w w') : FmtB p w (.returned (.tuple #[v, .int .i64 0])) w' := by
  rw [h]
  obtain ⟨A, c, rfl, h1, h2⟩ := Has.of_own hown
  have hn : n = t.length := by have := h1.1; rw [List.length_map] at this; omega
  subst hn
  exact ⟨A, c, rfl, h2, of_own_none hown, h1, hb⟩

theorem own_lt {w : World} {base e size n g : Nat} {v : Value} {xs : List Value} (h : w.ownsRow base e size v n xs) (hg : v.ownBlock = some g) : g < w.heap.size := by
  rcases h.2 with ⟨rfl, _⟩ | ⟨g', cap, cur, rfl, hge, hgb, _⟩
  · simp [Value.ownBlock] at hg
  · obtain rfl : g' = g := by simpa [Value.ownBlock] using hg
    exact (Array.getElem?_eq_some_iff.1 hgb).1

theorem own_ge {w : World} {base e size n g : Nat} {v : Value} {xs : List Value} (h : w.ownsRow base e size v n xs) (hg : some g = v.ownBlock) : base ≤ g := by
  rcases h.2 with ⟨rfl, _⟩ | ⟨g', cap, cur, rfl, hge, hgb, _⟩
  · simp [Value.ownBlock] at hg
  · obtain rfl : g = g' := by simpa [Value.ownBlock] using hg
    exact hge

/-! ### plain: the text behind the first k fields -/
def fmtK (l : List Fv) (k : Nat) : List UInt8 := (l.take k).flatMap fmtL
theorem fmtK_succ {l : List Fv} {k : Nat} (h : k < l.length) : fmtK l (k + 1) = fmtK l k ++ fmtL l[k] := by
  unfold fmtK
  rw [List.take_succ_eq_append_getElem h, List.flatMap_append]
  simp
theorem fmtK_len {l : List Fv} (hz : ∀ x ∈ l, x.name.length ≤ 16000 ∧ x.value.length ≤ 16000) : ∀ k, k ≤ l.length → (fmtK l k).length ≤ k * 32004
  | 0, _ => by unfold fmtK; simp
  | k + 1, hk => by
    have ih := fmtK_len hz k (by omega)
    obtain ⟨h1, h2⟩ := hz l[k] (List.getElem_mem (by omega))
    rw [fmtK_succ (by omega), List.length_append, Nat.add_mul]
    unfold fmtL
    simp
    omega
theorem fmt_bad {l : List Fv} {k : Nat} (h : k < l.length) (h1 : ¬ 100 < l.length) (hb : okF l[k] = false) : ffmt l = ([], 1) := by
  unfold ffmt
  rw [if_neg h1, if_pos]
  rw [List.all_eq_false]
  exact ⟨l[k], List.getElem_mem h, by simp [hb]⟩
theorem okK_succ {l : List Fv} {k : Nat} (h : k < l.length) (hk : (l.take k).all okF = true) (hb : okF l[k] = true) : (l.take (k + 1)).all okF = true := by
  rw [List.take_succ_eq_append_getElem h, List.all_append, hk]
  simp [hb]
theorem fmt_end {l : List Fv} (h1 : ¬ 100 < l.length) (hk : (l.take l.length).all okF = true) : ffmt l = if 16384 < (fmtK l l.length ++ [13, 10]).length then ([], 3) else (fmtK l l.length ++ [13, 10], 0) := by
  rw [List.take_length] at hk
  unfold ffmt fmtF fmtK
  rw [if_neg h1, if_neg (by rw [hk]; decide), List.take_length]
/-- A line, as the program lays it. -/
theorem line_bs (x : Fv) : Lib.strCells (bs x.name ++ ⟨#[58]⟩ ++ ⟨#[32]⟩ ++ bs x.value ++ ⟨#[13, 10]⟩) = (fmtL x).map bv ∧ (bs x.name ++ ⟨#[58]⟩ ++ ⟨#[32]⟩ ++ bs x.value ++ ⟨#[13, 10]⟩ : ByteArray).size = (fmtL x).length := by
  have e : ls (bs x.name ++ ⟨#[58]⟩ ++ ⟨#[32]⟩ ++ bs x.value ++ ⟨#[13, 10]⟩) = fmtL x := by
    simp only [ls_append, ls_bs]
    unfold fmtL
    rw [show ls ⟨#[58]⟩ = [58] from rfl, show ls ⟨#[32]⟩ = [32] from rfl, show ls ⟨#[13, 10]⟩ = [13, 10] from rfl]
    simp
  refine ⟨?_, by rw [← ls_length, e]⟩
  rw [← e]
  rfl

set_option maxRecDepth 100000 in
set_option maxHeartbeats 4000000 in
theorem fFormat_any (A : Option Addr) (c : Nat) (l : List Fv) (w : World) (hH : HasFd w w.heap.size A l.length l) (hl : l.length ≤ 1000000) (hz : ∀ x ∈ l, x.name.length ≤ 16000 ∧ x.value.length ≤ 16000) :
    Calls Try.prog 15 #[.slice A l.length c] w (FmtB (ffmt l) w) := by
  by_cases h100 : 100 < l.length
  · have hd : decide ((100 : Int) < (l.length : Int)) = true := decide_eq_true (by omega)
    have HR := Lib.hid (show ffmt l = ([], 3) from by unfold ffmt; rw [if_pos h100])
    clear h100
    go_enter Try.func15, Try.ntmps15
    go_wp2
    go_ret2
    exact fmtb_nil HR.out (Below.refl _ _)
  · have hd : decide ((100 : Int) < (l.length : Int)) = false := decide_eq_false (by omega)
    obtain ⟨i5, hi5, hz0, hz1, hz2⟩ := info_parts infoU8
    have HH := Lib.hid hH
    have HL := Lib.hid (fmtK_len hz)
    have HZ := Lib.hid hz
    clear hH hz
    go_enter Try.func15, Try.ntmps15
    go_wp2
    go_loopw [4, 12] (fun v i wr => ∃ (k : Nat), k ≤ l.length ∧ i = .int .i64 k ∧ wr.ownsRow w.heap.size 5 1 v (fmtK l k).length ((fmtK l k).map bv) ∧ Below w.heap.size w wr ∧ Hid ((l.take k).all okF = true)) (fun _ i _ => l.length - (intOf i).toNat)
    case atStart => exact ⟨0, Nat.zero_le _, rfl, World.ownsRow_nil _ _ _ _, Below.refl _ _, Lib.hid rfl⟩
    case round =>
      obtain ⟨k, hk, rfl, hown, hb, HK⟩ := hrel
      by_cases hlt : k < l.length
      · obtain ⟨b, off, rfl, hbb, d1, d2⟩ := (HH.out.below hb).at_ hlt
        obtain ⟨hzn, hzv⟩ := HZ.out l[k] (List.getElem_mem hlt)
        have hlen := HL.out k hk
        have hlen2 := HL.out (k + 1) hlt
        have hk100 : k * 32004 ≤ 100 * 32004 := Nat.mul_le_mul_right _ (by omega)
        have cn := fun W => validName_any (bs l[k].name) (by rw [bs_size]; omega) W
        have cv := fun W => validValue_any (bs l[k].value) (by rw [bs_size]; omega) W
        rw [ls_bs] at cn cv
        have hokf := okF_split l[k]
        have hline := line_bs l[k]
        have hsucc := fmtK_succ hlt
        have hbw : w.heap.size ≤ wr.heap.size := hb.size
        have hr1 : RowFd (wr.alloc (.cells #[.string ⟨#[]⟩, .string ⟨#[]⟩] 44)) wr.heap.size ⟨#[]⟩ ⟨#[]⟩ := row_new wr _ _
        have hown1 := hown.alloc (.cells #[.string ⟨#[]⟩, .string ⟨#[]⟩] 44)
        have hb1 := hb.alloc hbw (.cells #[.string ⟨#[]⟩, .string ⟨#[]⟩] 44)
        have hne : u4.ownBlock ≠ some wr.heap.size := fun e => by
          have := own_lt hown e
          omega
        obtain ⟨N, hN⟩ : ∃ N, N = bs l[k].name := ⟨_, rfl⟩
        obtain ⟨V, hV⟩ : ∃ V, V = bs l[k].value := ⟨_, rfl⟩
        have hNs : N.size ≤ 16000 := by rw [hN, bs_size]; exact hzn
        have hVs : V.size ≤ 16000 := by rw [hV, bs_size]; exact hzv
        rw [← hN, ← hV] at hline
        rw [← hN] at cn d1
        rw [← hV] at cv d2
        have HS := Lib.hid hsucc
        have HF := Lib.hid hokf
        have HX := Lib.hid hline
        clear hsucc hokf hline hN hV hzn hzv
        go_wp2_with (refine wpList_store_fd rfl rfl _ _ rfl wr.heap.size (by exact rfl) N V (by exact rfl) _ _ hr1 ?_; intro W9 hr9 hG9; have hown9 := hown1.kept hG9 (.inr hne); have hb9 := hb1.grown hG9 (by rw [World.size_alloc]; omega) (fun r e => by cases e; exact hbw); have j0 := hr9.cells.1; have j1 := hr9.cells.2; have hl9 := Row.lt hr9)
        clear hown hown1 hb1 hr1 d1 d2 hne
        refine (cn _).mono ?_
        rintro e w2 ⟨rfl, hb2⟩
        have hown2 := own_below hown9 hb2
        have hbt2 := hb9.trans (hb2.mono hb9.size)
        have r2 : RowFd w2 wr.heap.size N V := Row.below hr9 hb2 hl9
        have hl2 := Row.lt r2
        have j0 := r2.cells.1
        have j1 := r2.cells.2
        clear hown9 hb9 hr9 hb2 cn
        cases hn : okN l[k].name with
        | false =>
          have HR := Lib.hid (fmt_bad hlt h100 (by rw [HF.out, hn]; rfl))
          clear hn HF
          go_wp2
          go_ret2
          exact fmtb_nil HR.out hbt2
        | true =>
          go_wp2_with fail
          refine (cv _).mono ?_
          rintro e w3 ⟨rfl, hb3⟩
          have hown3 := own_below hown2 hb3
          have hbt3 := hbt2.trans (hb3.mono hbt2.size)
          have r3 : RowFd w3 wr.heap.size N V := Row.below r2 hb3 hl2
          have j0 := r3.cells.1
          have j1 := r3.cells.2
          clear hown2 hbt2 r2 hb3 cv
          cases hv : okV l[k].value with
          | false =>
            have HR := Lib.hid (fmt_bad hlt h100 (by rw [HF.out, hn, hv]; rfl))
            clear hn hv HF
            go_wp2
            go_ret2
            exact fmtb_nil HR.out hbt3
          | true =>
            have HK2 := Lib.hid (okK_succ hlt HK.out (by rw [HF.out, hn, hv]; rfl))
            have hlen3 : (fmtK l k).length + (fmtL l[k]).length ≤ 4000000 := by
              rw [HS.out, List.length_append] at hlen2
              omega
            have HN3 := Lib.hid hlen3
            clear hlen3
            have hw3 := hbt3.size
            clear hn hv HF hlen hlen2
            go_wp2_with (at_builtin; refine Lib.wpList_append_own_string _ rfl _ _ 22 9 rfl w.heap.size 5 i5 tyBs tyStr hi5 hz0 hz1 hz2 _ _ _ (by exact rfl) hown3 _ (by exact rfl) (by rw [HX.out.2]; unfold maxLen; have := HN3.out; omega) (by rw [HX.out.2]; have := HN3.out; omega) hw3 ?_; intro v' w5 hown5 hg5 _)
            have hb5 := hbt3.grown hg5 hw3 (fun r e => own_ge hown3 e.symm)
            go_roundw
            case rel =>
              refine ⟨k + 1, by omega, by go_num, ?_, hb5, HK2⟩
              rw [HS.out, List.map_append, List.length_append, ← HX.out.1, ← HX.out.2]
              exact hown5
            case measure => simp [intOf]; omega
      · obtain rfl : k = l.length := by omega
        have hlen := HL.out l.length (Nat.le_refl _)
        have hk100 : l.length * 32004 ≤ 100 * 32004 := Nat.mul_le_mul_right _ (by omega)
        have HE := Lib.hid (fmt_end h100 HK.out)
        have hbw : w.heap.size ≤ wr.heap.size := hb.size
        obtain ⟨T, hT⟩ : ∃ T, T = fmtK l l.length ++ [13, 10] := ⟨_, rfl⟩
        have hTl : T.length = (fmtK l l.length).length + 2 := by rw [hT, List.length_append]; rfl
        have hTm : T.map bv = (fmtK l l.length).map bv ++ Lib.strCells ⟨#[13, 10]⟩ := by rw [hT, List.map_append]; rfl
        rw [← hT] at HE
        have HM := Lib.hid hTm
        have HTL := Lib.hid hTl
        have HLN := Lib.hid hlen
        clear hT hTm hlen HK hk100 hTl
        generalize (fmtK l l.length).length = m at *
        generalize (fmtK l l.length).map bv = xs at *
        by_cases hbig : 16384 < m + 2
        · have hd1 : decide ((16384 : Int) < ((m + 2 : Nat) : Int)) = true := decide_eq_true (by omega)
          have hd2 : decide ((16384 : Int) < (m : Int) + 2) = true := decide_eq_true (by omega)
          have HR := Lib.hid (show ffmt l = ([], 3) from by rw [HE.out, if_pos (by rw [HTL.out]; exact hbig)])
          clear hbig
          go_wp2_with (at_builtin; refine Lib.wpList_append_own_string _ rfl _ _ 22 9 rfl w.heap.size 5 i5 tyBs tyStr hi5 hz0 hz1 hz2 _ _ _ (by exact rfl) hown _ (by exact rfl) (by have := HLN.out; show m + 2 ≤ maxLen; unfold maxLen; omega) (by have := HLN.out; show m + 2 ≤ _; omega) hbw ?_; intro v' w5 hown5 hg5 _; have hown6 : w5.ownsRow w.heap.size 5 1 v' (m + 2) (T.map bv) := (by rw [HM.out]; exact hown5); obtain ⟨A', c', rfl, hh', hc'⟩ := Has.of_own hown6; have hb5 := hb.grown hg5 hbw (fun r e => own_ge hown e.symm); clear hh')
          go_ret2
          exact fmtb_nil HR.out hb5
        · have hd1 : decide ((16384 : Int) < ((m + 2 : Nat) : Int)) = false := decide_eq_false (by omega)
          have hd2 : decide ((16384 : Int) < (m : Int) + 2) = false := decide_eq_false (by omega)
          have HR := Lib.hid (show ffmt l = (T, 0) from by rw [HE.out, if_neg (by rw [HTL.out]; exact hbig)])
          clear hbig
          go_wp2_with (at_builtin; refine Lib.wpList_append_own_string _ rfl _ _ 22 9 rfl w.heap.size 5 i5 tyBs tyStr hi5 hz0 hz1 hz2 _ _ _ (by exact rfl) hown _ (by exact rfl) (by have := HLN.out; show m + 2 ≤ maxLen; unfold maxLen; omega) (by have := HLN.out; show m + 2 ≤ _; omega) hbw ?_; intro v' w5 hown5 hg5 _; have hown6 : w5.ownsRow w.heap.size 5 1 v' (m + 2) (T.map bv) := (by rw [HM.out]; exact hown5); obtain ⟨A', c', rfl, hh', hc'⟩ := Has.of_own hown6; have hb5 := hb.grown hg5 hbw (fun r e => own_ge hown e.symm); clear hh')
          go_ret2
          exact fmtb_own HR.out hown6 hb5

end Go.Proofs.Ytmfoegpdjajicaa
