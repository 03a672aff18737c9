/-
A reader of IPv6 addresses from left to right: no program.
Contracts of digit and leadingGroup of package ipv6.
Slices of arrays: a[l:h]. No program.
Contract of withGap of package ipv6.
-/
import Derived.Test.YtekaljeicfjkjaaGreatDoorV03
import Derived.Test.YtekaljeicfjkjaaGreatDoorV07
import Derived.Test.YtekaljeicfjkjaaGreatDoorV19
import Derived.Test.YtekaljeicfjkjaaGreatDoorV08
import Derived.Laws.Slices
import Derived.Laws.CopyOwn
import Derived.StillTailTactics
namespace Go.Proofs.YtekaljeicfjkjaaGreatDoor
section
open Go.RowKit
set_option maxHeartbeats 16000000
def zmu : Nat -> List UInt8 -> Nat
 | 0, _ => 0
 | _ + 1, [] => 0
 | n + 1, c :: r => if zqh c < 16 then zmu n r + 1 else 0
theorem zmv : ∀ (n : Nat) (l : List UInt8), zmu n l <= n /\ zmu n l <= l.length
 | 0, _ => by simp [zmu]
 | _ + 1, [] => by simp [zmu]
 | n + 1, c :: r => by
   have ih := zmv n r
   unfold zmu
   split
   ·simp only [List.length_cons]; omega
   ·simp
theorem zmw : ∀ (n : Nat) (l : List UInt8) (k : Nat), k < zmu n l -> zqh (l.getD k 0) < 16
 | 0, _, k, h => by simp [zmu] at h
 | _ + 1, [], k, h => by simp [zmu] at h
 | n + 1, c :: r, k, h => by
   unfold zmu at h
   split at h
   ·rename_i hc
    cases k with
    | zero => exact hc
    | succ k => rw [List.getD_cons_succ]; exact zmw n r k (by omega)
   ·omega
theorem zmx : ∀ (n : Nat) (l : List UInt8), zmu n l = n \/ zmu n l = l.length \/ ¬ zqh (l.getD (zmu n l) 0) < 16
 | 0, _ => .inl rfl
 | _ + 1, [] => .inr (.inl rfl)
 | n + 1, c :: r => by
   have ih := zmx n r
   unfold zmu
   split
   ·rcases ih with h | h | h
    ·left; omega
    ·right; left; simp only [List.length_cons]; omega
    ·right; right; rw [List.getD_cons_succ]; exact h
   ·rename_i hc
    right; right; exact hc
theorem zmy (n : Nat) (l : List UInt8) : (l.take (zmu n l)).all (fun c => decide (zqh c < 16)) = true := by
 rw [List.all_eq_true]
 intro c hc
 obtain ⟨k, hk, rfl⟩ := List.getElem_of_mem hc
 have h1 : k < zmu n l := by simp at hk; omega
 have h2 := zmw n l k h1
 have h3 : k < l.length := by simp at hk; omega
 rw [List.getD_eq_getElem?_getD, List.getElem?_eq_getElem h3, Option.getD_some] at h2
 rw [List.getElem_take]
 exact jT h2
theorem zmz : ¬ zqh 58 < 16 := by decide
theorem zm0 : ¬ zqh 46 < 16 := by decide
theorem zm1 (x : List UInt8) (h : x.all (fun c => decide (zqh c < 16)) = true) : noB 58 x := by
 intro c hc e
 subst e
 have := List.all_eq_true.1 h _ hc
 exact zmz (of_decide_eq_true this)
theorem zm2 : ∀ (n : Nat) (x r : List UInt8), x.all (fun c => decide (zqh c < 16)) = true -> x.length <= n -> (r = [] \/ ∃ c t, r = c :: t /\ ¬ zqh c < 16) -> zmu n (x ++ r) = x.length
 | n, [], r, _, _, hr => by
   rcases hr with rfl | ⟨c, t, rfl, hc⟩
   ·cases n <;> rfl
   ·cases n with
    | zero => rfl
    | succ n => rw [List.nil_append, zmu, if_neg hc]; rfl
 | 0, c :: x, r, _, h, _ => by simp at h
 | n + 1, c :: x, r, ha, h, hr => by
   rw [List.all_cons, Bool.and_eq_true] at ha
   rw [List.cons_append, zmu, if_pos (of_decide_eq_true ha.1), zm2 n x r ha.2 (by simp at h; omega) hr]
   rfl
theorem zm3 : ∀ l : List UInt8, ∃ P, noB 58 P /\ (l = P \/ ∃ R, l = P ++ 58 :: R)
 | [] => ⟨[], fun b hb => (by simp at hb), .inl rfl⟩
 | c :: l => by
   by_cases hc : c = 58
   ·exact ⟨[], fun b hb => (by simp at hb), .inr ⟨l, by rw [hc]; rfl⟩⟩
   ·obtain ⟨P, hP, h⟩ := zm3 l
    refine ⟨c :: P, fun b hb => ?_, ?_⟩
    ·rcases List.mem_cons.1 hb with rfl | hb
     ·exact hc
     ·exact hP b hb
    ·rcases h with rfl | ⟨R, rfl⟩
     ·exact .inl rfl
     ·exact .inr ⟨R, rfl⟩
theorem zm4 : ∀ (a m : List UInt8) (i : Nat), noB 58 a -> m.head? ≠ some 58 -> znv (a ++ 58 :: m) i = znv m (i + a.length + 1)
 | [], [], i, _, _ => rfl
 | [], c :: m, i, _, h => by
   have hc : c ≠ 58 := by simpa using h
   rw [List.nil_append, znv, if_neg (fun e => hc e.2)]
   rfl
 | [x], m, i, ha, h => by
   have hx : x ≠ 58 := ha x (by simp)
   rw [List.cons_append, List.nil_append, znv, if_neg (fun e => hx e.1)]
   have := zm4 [] m (i + 1) (by intro b hb; simp at hb) h
   simpa using this
 | x :: y :: a, m, i, ha, h => by
   have hx : x ≠ 58 := ha x (by simp)
   rw [List.cons_append, List.cons_append, znv, if_neg (fun e => hx e.1)]
   have := zm4 (y :: a) m (i + 1) (fun b hb => ha b (by simp at hb ⊢; exact .inr hb)) h
   rw [List.cons_append] at this
   rw [this]
   congr 1
   simp only [List.length_cons]; omega
theorem zm5 (P R : List UInt8) (h : noB 58 P) (j : Nat) (hj : znv (P ++ 58 :: R) 0 = some j) : P.length <= j := by
 by_cases hR : R.head? = some 58
 ·cases R with
  | nil => cases hR
  | cons c R =>
    have hc : c = 58 := by simpa using hR
    subst hc
    have := zn9 P R 0 (zob P 0 h) (fun e => h 58 (List.mem_of_getLast? e) rfl)
    rw [this] at hj
    injection hj with hj
    omega
 ·rw [zm4 P R 0 h hR, zn8] at hj
  cases hq : znv R 0 with
  | none => rw [hq] at hj; cases hj
  | some q => rw [hq] at hj; injection hj with hj; simp only at hj; omega
theorem zm6 : ∀ (p : List (List UInt8)) (last : Bool) (g : List Nat), p ≠ [] -> znt p last = some g -> 1 <= g.length
 | [], _, _, h, _ => absurd rfl h
 | [x], last, g, _, h => by
   unfold znt at h
   split at h
   ·injection h with h; subst h; simp
   ·split at h
    ·injection h with h; subst h; simp
    ·cases h
 | x :: y :: r, last, g, _, h => by
   unfold znt at h
   split at h
   ·cases h
   ·split at h
    ·cases h
    ·injection h with h; subst h; simp
theorem zm7 (P : List UInt8) (rest : List (List UInt8)) (last : Bool) (h : zns P = none) (hp : last = true -> rest = [] -> zqr P = none) : znt (P :: rest) last = none := by
 cases rest with
 | nil =>
   unfold znt
   cases last with
   | false => rw [h]; rfl
   | true => rw [hp rfl rfl, h]; rfl
 | cons y r => unfold znt; rw [h]
theorem zm8 (x : List UInt8) (rest : List (List UInt8)) (last : Bool) (v : Nat) (h : zns x = some v) (hr : rest ≠ []) : znt (x :: rest) last = (znt rest last).map (v :: ·) := by
 cases rest with
 | nil => exact absurd rfl hr
 | cons y r =>
   rw [znt, h]
   cases znt (y :: r) last <;> rfl
def zm9 (G : List Nat) : Option Nat -> Option (List Nat)
 | none => if G.length = 8 then some G else none
 | some m => if G.length <= 7 then some (G.take m ++ (znw (8 - G.length) ++ G.drop m)) else none
def spB (l : List UInt8) (G : List Nat) (m : Nat) : Option (List Nat) := match (if l = [] /\ G.length = m then some [] else znt (z3e 58 l) true) with
 | some h => zm9 (G ++ h) (some m)
 | none => none
def spA (l : List UInt8) (G : List Nat) : Option (List Nat) := match znv l 0 with
 | none => (match znt (z3e 58 l) true with
   | some g => zm9 (G ++ g) none
   | none => none)
 | some k => (match znt (z3e 58 (l.take k)) false with
   | some g => spB (l.drop (k + 2)) (G ++ g) (G ++ g).length
   | none => none)
def sp6 (l : List UInt8) (G : List Nat) : Option Nat -> Option (List Nat)
 | none => spA l G
 | some m => spB l G m
theorem zna (l : List UInt8) (G : List Nat) (m : Nat) : sp6 l G (some m) = spB l G m := rfl
theorem znb (l : List UInt8) (G : List Nat) : sp6 l G none = spA l G := rfl
theorem znc (G : List Nat) (m : Nat) : zm9 G (some m) = if G.length <= 7 then some (G.take m ++ (znw (8 - G.length) ++ G.drop m)) else none := rfl
theorem znd (G : List Nat) : zm9 G none = if G.length = 8 then some G else none := rfl
theorem zne (G : List Nat) (gap : Option Nat) (h : 9 <= G.length) : zm9 G gap = none := by
 cases gap with
 | none => rw [znd, if_neg (by omega)]
 | some m => rw [znc, if_neg (by omega)]
theorem znf (l : List UInt8) : z3e 58 l ≠ [] := z3f 58 l []
theorem zng (l : List UInt8) : znx l = if l.take 2 = [58, 58] then sp6 (l.drop 2) [] (some 0) else sp6 l [] none := by
 split
 ·rename_i h
  obtain ⟨r, rfl⟩ : ∃ r, l = 58 :: 58 :: r := by
   match l, h with
   | a :: b :: r, h => simp at h; exact ⟨r, by rw [h.1, h.2]⟩
  have hd : znv (58 :: 58 :: r) 0 = some 0 := by rw [znv, if_pos ⟨rfl, rfl⟩]
  unfold znx sp6 spB
  rw [hd]
  simp only [List.take_zero, List.drop_succ_cons, List.drop_zero, List.nil_append, List.length_nil]
  rw [show znu [] false = some [] from rfl]
  simp only [znu]
  by_cases hr : r = []
  ·subst hr; simp [zm9]
  ·rw [if_neg hr, if_neg (fun e => hr e.1)]
   cases znt (z3e 58 r) true with
   | none => rfl
   | some g => simp [zm9]
 ·rename_i h
  unfold znx sp6 spA
  cases hd : znv l 0 with
  | none =>
    simp only [znu]
    by_cases hl : l = []
    ·subst hl
     rfl
    ·rw [if_neg hl]
     cases znt (z3e 58 l) true with
     | none => rfl
     | some g => simp [zm9]
  | some k =>
    have hk : l.take k ≠ [] := by
     intro e
     match l, hd, h with
     | a :: b :: r, hd, h =>
       rw [znv] at hd
       split at hd
       ·rename_i hab; rw [hab.1, hab.2] at h; exact h rfl
       ·rw [zn8] at hd
        cases hq : znv (b :: r) 0 with
        | none => rw [hq] at hd; cases hd
        | some q =>
          rw [hq] at hd
          injection hd with hd
          simp only at hd
          rw [<- hd] at e
          simp at e
    simp only [znu]
    rw [if_neg hk]
    cases hg : znt (z3e 58 (l.take k)) false with
    | none => rfl
    | some g =>
      simp only [List.nil_append]
      unfold spB
      by_cases hr : l.drop (k + 2) = []
      ·rw [if_pos hr, if_pos ⟨hr, rfl⟩]
       simp only [zm9, List.append_nil, List.length_nil, Nat.add_zero, Nat.sub_zero, List.take_length, List.drop_length]
      ·rw [if_neg hr, if_neg (fun e => hr e.1)]
       cases znt (z3e 58 (l.drop (k + 2))) true with
       | none => rfl
       | some h =>
         simp only [zm9, List.length_append, List.take_left', List.drop_left', Nat.sub_sub]
theorem znh (l : List UInt8) (G : List Nat) (gap : Option Nat) (hl : ¬ (l = [] /\ gap = some G.length)) (hp : zqr l = none) (hh : ∀ P, noB 58 P -> (l = P \/ ∃ R, l = P ++ 58 :: R) -> zns P = none) : sp6 l G gap = none := by
 obtain ⟨P, hP, hc⟩ := zm3 l
 have hx := hh P hP hc
 have hg : znt (z3e 58 l) true = none := by
  rcases hc with rfl | ⟨R, rfl⟩
  ·rw [z3m 58 _ hP]
   exact zm7 _ _ _ hx (fun _ _ => hp)
  ·rw [z3l 58 P R hP]
   exact zm7 _ _ _ hx (fun _ e => absurd e (znf R))
 cases gap with
 | some m =>
   rw [zna]; unfold spB
   rw [if_neg (fun e => hl ⟨e.1, by rw [e.2]⟩), hg]
 | none =>
   rw [znb]; unfold spA
   cases hd : znv l 0 with
   | none => simp only [hg]
   | some j =>
     have hg2 : znt (z3e 58 (l.take j)) false = none := by
      rcases hc with rfl | ⟨R, rfl⟩
      ·rw [zob _ 0 hP] at hd; cases hd
      ·have hj := zm5 P R hP j hd
       by_cases he : j = P.length
       ·rw [he, List.take_left', z3m 58 _ hP]
        ·exact zm7 _ _ _ hx (fun e => by cases e)
        ·rfl
       ·obtain ⟨q, rfl⟩ : ∃ q, j = P.length + (q + 1) := ⟨j - P.length - 1, by omega⟩
        rw [List.take_length_add_append, List.take_succ_cons, z3l 58 P _ hP]
        exact zm7 _ _ _ hx (fun e => by cases e)
     simp only [hg2]
theorem zni (l : List UInt8) (G : List Nat) (gap : Option Nat) (hl : ¬ (l = [] /\ gap = some G.length)) (h8 : 8 <= G.length) : sp6 l G gap = none := by
 have hb : ∀ (t : List UInt8) (H : List Nat) (m : Nat), 8 <= H.length -> ¬ (t = [] /\ H.length = m) -> spB t H m = none := by
  intro t H m hH ht
  unfold spB
  rw [if_neg ht]
  cases hg : znt (z3e 58 t) true with
  | none => rfl
  | some g =>
    have := zm6 _ _ _ (znf t) hg
    exact zne _ _ (by simp; omega)
 cases gap with
 | some m => exact hb l G m h8 (fun e => hl ⟨e.1, by rw [e.2]⟩)
 | none =>
   rw [znb]; unfold spA
   cases hd : znv l 0 with
   | none =>
     cases hg : znt (z3e 58 l) true with
     | none => simp only []
     | some g =>
       have := zm6 _ _ _ (znf l) hg
       simp only []
       exact zne _ _ (by simp; omega)
   | some k =>
     cases hg : znt (z3e 58 (l.take k)) false with
     | none => simp only [hg]
     | some g =>
       have h1 := zm6 _ _ _ (znf (l.take k)) hg
       simp only [hg]
       unfold spB
       by_cases hr : l.drop (k + 2) = []
       ·rw [if_pos ⟨hr, rfl⟩]
        exact zne _ _ (by simp; omega)
       ·rw [if_neg (fun e => hr e.1)]
        cases znt (z3e 58 (l.drop (k + 2))) true with
        | none => rfl
        | some q => exact zne _ _ (by simp; omega)
section
variable {l : List UInt8} {G : List Nat} {gap : Option Nat} {k : Nat}
theorem znj (h : zmu 4 l = k) (h0 : 0 < k) : zns (l.take k) = some (zqi 16 0 (l.take k)) := by
 have h1 := zmv 4 l
 have h2 := zmy 4 l
 rw [h] at h1 h2
 unfold zns
 rw [if_pos ⟨by rw [List.length_take]; omega, h2⟩]
theorem znk (h : zmu 4 l = k) : noB 58 (l.take k) := by
 have h2 := zmy 4 l
 rw [h] at h2
 exact zm1 _ h2
theorem znl {u : Nat} (h : zqr l = some u) : 0 < zmu 4 l /\ ∃ r, l.drop (zmu 4 l) = 46 :: r := by
 obtain ⟨hu, rfl⟩ := zrg h
 have hd := zq1 (u / 16777216)
 have hlen : (Lib.decDigits (u / 16777216)).length <= 3 := by
  have hlt : u / 16777216 < 256 := by omega
  generalize u / 16777216 = q at hlt
  revert q
  decide +kernel
 have hall : (Lib.decDigits (u / 16777216)).all (fun c => decide (zqh c < 16)) = true := by
  rw [List.all_eq_true] at hd ⊢
  intro c hc
  have := of_decide_eq_true (hd c hc)
  exact jT (by omega)
 have hpos : 0 < (Lib.decDigits (u / 16777216)).length := by
  have hlt : u / 16777216 < 256 := by omega
  generalize u / 16777216 = q at hlt
  revert q
  decide +kernel
 unfold zqs
 rw [z3o _ _ _ (by simp)]
 rw [zm2 4 _ _ hall (by omega) (.inr ⟨46, _, rfl, zm0⟩)]
 exact ⟨hpos, _, List.drop_left' rfl⟩
theorem znm (h : zmu 4 l = k) (hb : k = 0 \/ ∃ c r, l.drop k = c :: r /\ c ≠ 58) (P : List UInt8) (hP : noB 58 P) (hc : l = P \/ ∃ R, l = P ++ 58 :: R) : zns P = none := by
 by_cases hall : (1 <= P.length /\ P.length <= 4) /\ P.all (fun c => decide (zqh c < 16)) = true
 ·exfalso
  have hk : k = P.length := by
   rw [<- h]
   rcases hc with rfl | ⟨R, rfl⟩
   ·have := zm2 4 l [] hall.2 hall.1.2 (.inl rfl)
    rwa [List.append_nil] at this
   ·exact zm2 4 P _ hall.2 hall.1.2 (.inr ⟨58, R, rfl, zmz⟩)
  rcases hb with h0 | ⟨c, r, hd, hne⟩
  ·have := hall.1.1; omega
  ·rcases hc with rfl | ⟨R, rfl⟩
   ·rw [hk, List.drop_length] at hd; cases hd
   ·rw [hk, List.drop_left' rfl] at hd
    injection hd with hd
    exact hne hd.symm
 ·unfold zns
  rw [if_neg hall]
theorem znn (hl : ¬ (l = [] /\ gap = some G.length)) (h : zmu 4 l = k) (hb : k = 0 \/ ∃ c r, l.drop k = c :: r /\ c ≠ 58 /\ c ≠ 46) : sp6 l G gap = none := by
 refine znh l G gap hl ?_ (znm h ?_)
 ·cases hq : zqr l with
  | none => rfl
  | some u =>
    exfalso
    obtain ⟨h0, r, hr⟩ := znl hq
    rw [h] at h0 hr
    rcases hb with e | ⟨c, t, e, _, h2⟩
    ·omega
    ·rw [hr] at e; injection e with e; exact h2 e.symm
 ·rcases hb with e | ⟨c, t, e, h2, _⟩
  ·exact .inl e
  ·exact .inr ⟨c, t, e, h2⟩
theorem zno (h : zmu 4 l = k) (h0 : 0 < k) (hr : l.drop k = []) : sp6 l G gap = zm9 (G ++ [zqi 16 0 (l.take k)]) gap := by
 have hx := znj h h0
 have hn := znk h
 have hk : l.take k = l := by
  have := List.take_append_drop k l
  rw [hr, List.append_nil] at this
  exact this
 rw [hk] at hx hn ⊢
 have hl : l ≠ [] := by
  intro e; subst e; simp [zmu] at h; omega
 have hg : znt (z3e 58 l) true = some [zqi 16 0 l] := by
  rw [z3m 58 l hn, znt, if_pos rfl, zom hx, hx]
 cases gap with
 | some m =>
   rw [zna]; unfold spB
   rw [if_neg (fun e => hl e.1), hg]
 | none =>
   rw [znb]; unfold spA
   rw [zob l 0 hn]
   simp only [hg]
theorem znp {r : List UInt8} (h : zmu 4 l = k) (hr : l.drop k = 46 :: r) : sp6 l G gap = match zqr l with
 | none => none
 | some u => zm9 (G ++ [u / 65536, u % 65536]) gap := by
 have hl : l ≠ [] := by intro e; subst e; simp at hr
 cases hq : zqr l with
 | none => exact znh l G gap (fun e => hl e.1) hq (znm h (.inr ⟨46, r, hr, by decide⟩))
 | some u =>
   have hn : noB 58 l := by
    obtain ⟨hu, rfl⟩ := zrg hq
    unfold zqs
    have hd : ∀ q, noB 58 (Lib.decDigits q) := fun q => zm1 _ (by
     have := zq1 q
     rw [List.all_eq_true] at this ⊢
     intro c hc
     have := of_decide_eq_true (this c hc)
     exact jT (by omega))
    intro b hb
    simp only [z3n, List.mem_append, List.mem_cons] at hb
    have h1 := hd (u / 16777216) b
    have h2 := hd (u / 65536 % 256) b
    have h3 := hd (u / 256 % 256) b
    have h4 := hd (u % 256) b
    rcases hb with hb | rfl | hb | rfl | hb | rfl | hb
    ·exact h1 hb
    ·decide
    ·exact h2 hb
    ·decide
    ·exact h3 hb
    ·decide
    ·exact h4 hb
   have hg : znt (z3e 58 l) true = some [u / 65536, u % 65536] := by
    rw [z3m 58 l hn, znt, if_pos rfl, hq]
   cases gap with
   | some m =>
     rw [zna]; unfold spB
     rw [if_neg (fun e => hl e.1), hg]
   | none =>
     rw [znb]; unfold spA
     rw [zob l 0 hn]
     simp only [hg]
theorem znq {r : List UInt8} (h : zmu 4 l = k) (h0 : 0 < k) (hr : l.drop k = 58 :: 58 :: r) : sp6 l G none = sp6 r (G ++ [zqi 16 0 (l.take k)]) (some (G.length + 1)) := by
 have hx := znj h h0
 have hn := znk h
 have hlen : (l.take k).length = k := by have := (zmv 4 l).2; rw [h] at this; simp; omega
 have hd : znv l 0 = some k := by
  have := zn9 (l.take k) r 0 (zob _ 0 hn) (fun e => hn 58 (List.mem_of_getLast? e) rfl)
  rw [<- hr, List.take_append_drop, hlen, Nat.zero_add] at this
  exact this
 rw [znb]; unfold spA
 rw [hd]
 simp only
 rw [z3m 58 _ hn, show znt [l.take k] false = some [zqi 16 0 (l.take k)] by rw [znt, if_neg (by decide), hx]]
 simp only
 rw [show l.drop (k + 2) = r by rw [<- List.drop_drop, hr]; rfl, zna, List.length_append]
 rfl
theorem znr {r : List UInt8} (h : zmu 4 l = k) (h0 : 0 < k) (hr : l.drop k = 58 :: r) (hg : gap = none -> r.head? ≠ some 58) (hm : ∀ m, gap = some m -> m <= G.length) : sp6 l G gap = sp6 r (G ++ [zqi 16 0 (l.take k)]) gap := by
 have hx := znj h h0
 have hn := znk h
 have hlen : (l.take k).length = k := by have := (zmv 4 l).2; rw [h] at this; simp; omega
 have hl : l ≠ [] := by intro e; subst e; simp at hr
 have hsp : l = l.take k ++ 58 :: r := by rw [<- hr, List.take_append_drop]
 have hs : z3e 58 l = l.take k :: z3e 58 r := by
  conv => lhs; rw [hsp]
  exact z3l 58 _ r hn
 have hgo : ∀ (t : List UInt8) (last : Bool), znt (l.take k :: z3e 58 t) last = (znt (z3e 58 t) last).map (zqi 16 0 (l.take k) :: ·) := fun t last => zm8 _ _ _ _ hx (znf t)
 generalize zqi 16 0 (l.take k) = v at hgo
 cases gap with
 | some m =>
   have hmG := hm m rfl
   rw [zna, zna]; unfold spB
   rw [if_neg (fun e => hl e.1), if_neg (fun e => by have := e.2; simp at this; omega), hs, hgo r true]
   cases znt (z3e 58 r) true with
   | none => rfl
   | some g => simp
 | none =>
   have hd : znv l 0 = (znv r 0).map (· + (k + 1)) := by
    conv => lhs; rw [hsp]
    rw [zm4 _ r 0 hn (hg rfl), hlen, Nat.zero_add, zn8]
   rw [znb, znb]; unfold spA
   rw [hd]
   cases hq : znv r 0 with
   | none =>
     simp only [Option.map_none]
     rw [hs, hgo r true]
     cases znt (z3e 58 r) true with
     | none => rfl
     | some g => simp
   | some j =>
     simp only [Option.map_some]
     have ht : l.take (j + (k + 1)) = l.take k ++ 58 :: r.take j := by
      conv => lhs; rw [hsp]
      rw [show j + (k + 1) = (l.take k).length + (j + 1) by omega, List.take_length_add_append, List.take_succ_cons]
     have hdr : l.drop (j + (k + 1) + 2) = r.drop (j + 2) := by
      conv => lhs; rw [hsp]
      rw [show j + (k + 1) + 2 = (l.take k).length + (j + 2 + 1) by omega, List.drop_length_add_append, List.drop_succ_cons]
     rw [ht, hdr, z3l 58 _ _ hn, hgo (r.take j) false]
     cases znt (z3e 58 (r.take j)) false with
     | none => rfl
     | some g => simp
end
end

section
open Go.RowKit
set_option maxHeartbeats 16000000
theorem zk7 (c : UInt8) (w : World) :
 Calls Tryz.prog 200 #[.int .u8 (c.toNat : Int)] w fun e w' => e = .returned (.int .u16 (pd c : Nat)) /\ w = w' := by
 have hlt := c.toNat_lt
 by_cases h1 : 48 <= c.toNat /\ c.toNat <= 57
 ·have HE : Hid (((pd c : Nat) : Int) = (c.toNat : Int) - 48) := by show _ = _; unfold pd zqh; rw [if_pos h1]; omega
  have d1 : decide ((48 : Int) <= (c.toNat : Int)) = true := jT (by omega)
  have d2 : decide ((c.toNat : Int) <= 57) = true := jT (by omega)
  go_enter Tryz.func200, Tryz.ntmps200
  go_wp2
  go_ret
  exact ⟨zby HE.out.symm, rfl⟩
 ·by_cases h2 : 97 <= c.toNat /\ c.toNat <= 102
  ·have HE : Hid (((pd c : Nat) : Int) = 10 + ((c.toNat : Int) - 97)) := by show _ = _; unfold pd zqh; rw [if_neg h1, if_pos h2]; omega
   have d2 : decide ((c.toNat : Int) <= 57) = false := jF (by omega)
   have d3 : decide ((97 : Int) <= (c.toNat : Int)) = true := jT (by omega)
   have d4 : decide ((c.toNat : Int) <= 102) = true := jT (by omega)
   have d1 : decide ((48 : Int) <= (c.toNat : Int)) = true := jT (by omega)
   go_enter Tryz.func200, Tryz.ntmps200
   go_wp2
   go_ret
   exact ⟨zby HE.out.symm, rfl⟩
  ·by_cases h3 : 65 <= c.toNat /\ c.toNat <= 70
   ·have HE : Hid (((pd c : Nat) : Int) = 10 + ((c.toNat : Int) - 65)) := by show _ = _; unfold pd zqh; rw [if_neg h1, if_neg h2, if_pos h3]; omega
    have d1 : decide ((48 : Int) <= (c.toNat : Int)) = true := jT (by omega)
    have d2 : decide ((c.toNat : Int) <= 57) = false := jF (by omega)
    have d3 : decide ((97 : Int) <= (c.toNat : Int)) = false := jF (by omega)
    have d5 : decide ((65 : Int) <= (c.toNat : Int)) = true := jT (by omega)
    have d6 : decide ((c.toNat : Int) <= 70) = true := jT (by omega)
    go_enter Tryz.func200, Tryz.ntmps200
    go_wp2
    go_ret
    exact ⟨zby HE.out.symm, rfl⟩
   ·have HE : Hid (((pd c : Nat) : Int) = 16) := by show _ = _; unfold pd zqh; rw [if_neg h1, if_neg h2, if_neg h3]; rfl
    have c1 : (decide ((48 : Int) <= (c.toNat : Int)) && decide ((c.toNat : Int) <= 57)) = false := by rw [Bool.and_eq_false_iff, decide_eq_false_iff_not, decide_eq_false_iff_not]; omega
    have c2 : (decide ((97 : Int) <= (c.toNat : Int)) && decide ((c.toNat : Int) <= 102)) = false := by rw [Bool.and_eq_false_iff, decide_eq_false_iff_not, decide_eq_false_iff_not]; omega
    have c3 : (decide ((65 : Int) <= (c.toNat : Int)) && decide ((c.toNat : Int) <= 70)) = false := by rw [Bool.and_eq_false_iff, decide_eq_false_iff_not, decide_eq_false_iff_not]; omega
    go_enter Tryz.func200, Tryz.ntmps200
    go_wp2
    all_goals (go_ret; exact ⟨zby HE.out.symm, rfl⟩)
theorem zk8 (a b : Nat) (hb : b < 16) (ha : a * 16 + b < 65536) : bits .or .u16 (((a : Nat) : Int) * 16) (b : Int) = ((a * 16 + b : Nat) : Int) := by
 rw [show ((a : Nat) : Int) * 16 = ((a * 16 : Nat) : Int) by omega, u16_or_nat _ _ (by omega) (by omega), nat_join 4 (a * 16) b (by omega) (by omega)]
theorem zk9 (l : List UInt8) (k : Nat) (h : (l.take k).all (fun c => decide (zqh c < 16)) = true) : zqi 16 0 (l.take k) < 16 ^ k := by
 have h1 := zj3 (l.take k) 0 0 (by decide) h
 have h2 : (16 : Nat) ^ (0 + (l.take k).length) <= 16 ^ k := Nat.pow_le_pow_right (by decide) (by rw [List.length_take]; omega)
 omega
theorem zla {p : UInt8 -> Bool} {l : List UInt8} {k n : Nat} (h : (l.take n).all p = true) (hk : k <= n) : (l.take k).all p = true := by
 rw [List.all_eq_true] at h ⊢
 intro c hc
 refine h c ?_
 rw [show l.take k = (l.take n).take k by rw [List.take_take, Nat.min_eq_left hk]] at hc
 exact List.mem_of_mem_take hc
theorem zlb (s : ByteArray) (hs : s.size <= 1000000000) (w : World) :
 Calls Tryz.prog 174 #[.string s] w fun e w' => e = .returned (.tuple #[.int .u16 (zqi 16 0 ((ls s).take (zmu 4 (ls s))) : Nat), .int .i64 (zmu 4 (ls s) : Nat)]) /\ w = w' := by
 have hle := zmv 4 (ls s)
 have hall := zmy 4 (ls s)
 have hst := zmx 4 (ls s)
 have hlt := zmw 4 (ls s)
 rw [zb4] at hle hst
 generalize zmu 4 (ls s) = n at *
 obtain ⟨hn4, hns⟩ := hle
 have HALL := jL hall
 have HST := jL hst
 have HLT := jL hlt
 clear hall hst hlt
 obtain ⟨M, hM⟩ : ∃ M : Int, min (s.size : Int) 4 = M := ⟨_, rfl⟩
 have hmin : ∀ (W : World) (ts : Array TypeId) (t : TypeId), (Builtin.min_ ts t #[.int .i64 (s.size : Int), .int .i64 4]).run Tryz.prog W = .ok (.int .i64 M) W := fun W ts t => zu7 W ts t _ _ _ hM
 have HM := jL hM
 clear hM
 go_enter Tryz.func174, Tryz.ntmps174
 go_wp2
 go_loop [2, 3] (fun g i => ∃ (k : Nat) (z : Nat), k <= n /\ i = .int .i64 k /\ g = .int .u16 z /\ Hid (z = zqi 16 0 ((ls s).take k))) (fun _ i => 4 - (intOf i).toNat)
 case atStart => exact ⟨0, 0, Nat.zero_le _, rfl, rfl, jL rfl⟩
 case round =>
  obtain ⟨k, z, hk, rfl, rfl, HZ⟩ := hrel
  have hz16 : z < 65536 := by
   have h1 := zk9 (ls s) k (zla HALL.out hk)
   have h2 : (16 : Nat) ^ k <= 16 ^ 4 := Nat.pow_le_pow_right (by decide) (by omega)
   have e : (16 : Nat) ^ 4 = 65536 := by decide
   rw [HZ.out]; omega
  by_cases hb : (k : Int) < M
  ·have hd : decide ((k : Int) < M) = true := jT hb
   have hks : k < s.size := by have := HM.out; omega
   have hk4 : k < 4 := by have := HM.out; omega
   have c1 := fun W => zk7 s[k] W
   by_cases hx : zqh s[k] < 16
   ·have hpd : pd s[k] = zqh s[k] := by unfold pd; omega
    rw [hpd] at c1
    have HZ2 : Hid (z * 16 + zqh s[k] = zqi 16 0 ((ls s).take (k + 1))) := by
     show _ = _
     rw [zj1 s k hks, HZ.out]
    have hkn : k + 1 <= n := by
     by_cases e : k = n
     ·exfalso
      rcases HST.out with h | h | h
      ·omega
      ·omega
      ·rw [<- e, List.getD_eq_getElem?_getD, zb7 s k hks, Option.getD_some] at h
       exact h hx
     ·omega
    have hz2 : z * 16 + zqh s[k] < 65536 := by
     have h1 := zk9 (ls s) (k + 1) (zla HALL.out hkn)
     have h2 : (16 : Nat) ^ (k + 1) <= 16 ^ 4 := Nat.pow_le_pow_right (by decide) (by omega)
     have e : (16 : Nat) ^ 4 = 65536 := by decide
     rw [HZ2.out]; omega
    obtain ⟨d, hdd⟩ : ∃ d, d = zqh s[k] := ⟨_, rfl⟩
    rw [<- hdd] at c1 hx HZ2 hz2
    have hor := zk8 z d hx hz2
    have hwr : IntKind.u16.wrap ((z : Int) * 16) = (z : Int) * 16 := by rw [IntKind.wrap_u16]; omega
    have hge : decide ((d : Int) >= 16) = false := jF (by omega)
    have hge2 : decide ((16 : Int) <= (d : Int)) = false := jF (by omega)
    clear hdd hpd
    go_wp2_with fail
    refine (c1 _).mono ?_
    rintro e w' ⟨rfl, rfl⟩
    go_wp2
    go_round
    case rel => exact ⟨k + 1, z * 16 + d, hkn, by go_num, by first | rfl | go_num, HZ2⟩
    case measure => simp [intOf]; omega
   ·have hpd : pd s[k] = 16 := by unfold pd; omega
    rw [hpd, show ((16 : Nat) : Int) = 16 from rfl] at c1
    have hkn : k = n := by
     by_cases e : k < n
     ·exfalso
      have := HLT.out k e
      rw [List.getD_eq_getElem?_getD, zb7 s k hks, Option.getD_some] at this
      exact hx this
     ·omega
    subst hkn
    clear hpd
    go_wp2_with fail
    refine (c1 _).mono ?_
    rintro e w' ⟨rfl, rfl⟩
    go_wp2
    go_ret2
    exact ⟨by rw [HZ.out]; rfl, rfl⟩
  ·have hd : decide ((k : Int) < M) = false := jF hb
   have hkn : k = n := by have := HM.out; omega
   subst hkn
   go_wp2
   go_ret2
   exact ⟨by rw [HZ.out]; rfl, rfl⟩
end

section
open Go.RowKit
set_option maxHeartbeats 16000000
theorem z2v {P : Program} (t e : TypeId) (n g l h : Nat) (hu : P.underlying t = some (.array n e)) (hs : (P.info? e).map (·.size) = some 1) (lo hi : Option Value)
 (hl : lo = some (.int .i64 (l : Int)) \/ (lo = none /\ l = 0)) (hh : hi = some (.int .i64 (h : Int)) \/ (hi = none /\ h = n)) (h1 : l <= h) (h2 : h <= n) (w : World) :
 (Instr.sliceAt t (.pointer (some ⟨g, 0, none⟩)) lo hi none).run P w = .ok (.slice (some (if n = l then ⟨g, 0, none⟩ else ⟨g, l, none⟩)) (h - l) (n - l)) w := by
 obtain ⟨q, hq, hq1⟩ : ∃ q, P.info? e = some q /\ q.size = 1 := by
  cases hq : P.info? e with
  | none => simp [hq] at hs
  | some q => exact ⟨q, rfl, by simpa [hq] using hs⟩
 have hadd : (⟨g, 0, none⟩ : Addr).add l = ⟨g, l, none⟩ := by unfold Addr.add; simp; omega
 have b1 : ∀ (y : Nat) (code : BoundsCode) (W : World), l <= y -> (Instr.sliceBound (.int .i64 (l : Int)) y code).run P W = .ok l W := fun y code W hy => by
  have := run_sliceBound (P := P) W .i64 (l : Int) y code (by omega) (by omega)
  simpa using this
 have b2 : ∀ (y : Nat) (code : BoundsCode) (W : World), h <= y -> (Instr.sliceBound (.int .i64 (h : Int)) y code).run P W = .ok h W := fun y code W hy => by
  have := run_sliceBound (P := P) W .i64 (h : Int) y code (by omega) (by omega)
  simpa using this
 have hsz : ∀ W, (sizeOf e).run P W = .ok 1 W := fun W => by simp [sizeOf, typeInfo, hq, hq1]
 rcases hl with rfl | ⟨rfl, rfl⟩ <;> rcases hh with rfl | ⟨rfl, rfl⟩
 ·simp [Instr.sliceAt, Instr.sureAddr, run_underlying hu, Instr.sliceBounds, b1 h _ _ h1, b2 n _ _ h2, hsz, hadd, Result.andThen]
 ·simp [Instr.sliceAt, Instr.sureAddr, run_underlying hu, Instr.sliceBounds, b1 _ _ _ h1, hsz, hadd, Result.andThen]
 ·simp [Instr.sliceAt, Instr.sureAddr, run_underlying hu, Instr.sliceBounds, b2 n _ _ h2, hsz, Result.andThen]
  exact fun _ => hadd
 ·simp [Instr.sliceAt, Instr.sureAddr, run_underlying hu, Instr.sliceBounds, hsz, Result.andThen]
  exact fun _ => hadd
end

section
open Go.RowKit
set_option maxHeartbeats 16000000
theorem zmf (w : World) (g : Nat) (C : List Nat) (h : zaj w g C) (hC : C.length = 8) (l m : Nat) (hm : l + m <= 8) (B : Nat) (hB : g < B) (A : Option Addr) (hA : 0 < m -> A = some ⟨g, l, none⟩) : Has w B A m (uv ((C.drop l).take m)) := by
 refine ⟨by rw [zke, List.length_take, List.length_drop, hC]; omega, fun h0 => ⟨g, l, hA h0, hB, fun j hj => ?_⟩⟩
 have hj' : j < m := by
  rw [zke, List.length_take] at hj
  omega
 rw [h.cell (k := l + j) (by omega)]
 simp [uv, List.getD_eq_getElem?_getD, List.getElem?_eq_getElem (show l + j < C.length by omega)]
theorem zmg (w : World) {ops : Array Oper} {rest : List Oper} {o : Oper} {a : Act} {Q : Exit -> Act -> World -> Prop} (hg : o.guard = none) (d s : Operand)
 (ho : o.op = .call { callee := .builtin .copy, args := #[d, s], argTypes := #[95, 95] }) (g off dLen dCap sLen sCap : Nat) (Ad As : Option Addr) (hd : a.eval d = .slice Ad dLen dCap) (hs : a.eval s = .slice As sLen sCap)
 (C : List Nat) (hrow : zaj w g C) (hC : C.length = 8) (xs : List Nat) (B : Nat) (hx : Has w B As sLen (uv xs)) (hle : sLen <= dLen) (hAd : 0 < sLen -> Ad = some ⟨g, off, none⟩) (hfit : off + sLen <= 8)
 (h : ∀ w', zaj w' g (C.take off ++ (xs ++ C.drop (off + sLen))) -> w.grownBy w' (some g) -> wpList Tryz.prog ops Q rest (a.put o.dst (goInt sLen)) w') : wpList Tryz.prog ops Q (o :: rest) a w := by
 have hxl : xs.length = sLen := by have := hx.1; rwa [zke] at this
 by_cases h0 : sLen = 0
 ·subst h0
  obtain rfl : xs = [] := List.eq_nil_of_length_eq_zero hxl
  refine wpList_copy_nothing hg d s _ _ ho 23 zka zkd _ _ _ _ _ _ hd hs (by simp) ?_
  exact h w (by simpa using hrow) ⟨rfl, rfl, rfl, jH, fun _ _ _ => rfl⟩
 ·obtain ⟨b, o2, rfl, hb, hc⟩ := hx.2 (by omega)
  obtain rfl := hAd (by omega)
  refine wpList_copy_own hg d s _ _ ho 23 zka zkd g off dLen dCap ⟨b, o2, none⟩ sLen sCap hd hs (av C) _ hrow (uv xs) (by rw [zke, hxl]; simp [Nat.min_def]; omega) ?_ (by rw [zke, hxl, zaa, hC]; exact hfit) (zkg _) ?_
  ·intro j v hj
   have hadd : (⟨b, o2, none⟩ : Addr).add j = ⟨b, o2 + j, none⟩ := by unfold Addr.add; split <;> simp_all
   have hjl := (List.getElem?_eq_some_iff.1 hj).1
   rw [hadd, hc j hjl, <- hj, List.getElem?_eq_getElem hjl]
  ·have hval : ((av C).toList.take off ++ (uv xs ++ (av C).toList.drop (off + (uv xs).length))).toArray = av (C.take off ++ (xs ++ C.drop (off + sLen))) := by
    rw [zke, hxl]
    simp [av, uv, List.map_take, List.map_drop]
   rw [hval, zke, hxl]
   exact h _ (setRow_heap w g (av C) _ _ _ hrow) (zaw w g _)
theorem zmh (a : List Nat) (ha : a.length = 8) (c m : Nat) (hm : m <= c) (hc : c <= 8) (C : List Nat) (hC : C = (znw 8).take 0 ++ (a.take m ++ (znw 8).drop (0 + m))) :
 C.take (8 - (c - m)) ++ ((a.take c).drop m ++ C.drop (8 - (c - m) + (c - m))) = a.take m ++ (znw (8 - c) ++ (a.take c).drop m) := by
 have hz : (znw 8).drop m = znw (8 - m) := by unfold znw; rw [List.drop_replicate]
 have h1 : C = a.take m ++ znw (8 - m) := by rw [hC, List.take_zero, List.nil_append, Nat.zero_add, hz]
 have h3 : (a.take m).length = m := by rw [List.length_take, ha]; omega
 have h2 : C.length = 8 := by rw [h1, List.length_append, h3]; unfold znw; rw [List.length_replicate]; omega
 have h4 : C.drop (8 - (c - m) + (c - m)) = [] := List.drop_eq_nil_of_le (by omega)
 have h5 : C.take (8 - (c - m)) = a.take m ++ znw (8 - c) := by
  have h6 : (a.take m).take (8 - (c - m)) = a.take m := List.take_of_length_le (by omega)
  have h7 : (znw (8 - m)).take (8 - (c - m) - m) = znw (8 - c) := by
   unfold znw
   rw [List.take_replicate]
   congr 1
   omega
  rw [h1, List.take_append, h6, h3, h7]
 rw [h4, h5, List.append_nil, List.append_assoc]
set_option maxRecDepth 20000 in
theorem zmi (a : List Nat) (ha : a.length = 8) (c m : Nat) (hm : m <= c) (hc : c <= 8) (w : World) :
 Calls Tryz.prog 176 #[.agg (av a), .int .i64 (c : Int), .int .i64 (m : Int)] w fun e w' => e = .returned (.agg (av (a.take m ++ (znw (8 - c) ++ (a.take c).drop m)))) /\ Below w.heap.size w w' := by
 have HAL := jL ha
 clear ha
 go_enter Tryz.func176, Tryz.ntmps176
 go_wp2_with (first
  | (refine zax _ rfl 3 rfl _ _ rfl _ (av a) (by exact rfl) (by exact rfl) ?_; intro W1 ga hga hla hA hG; have hb1 := zav (Below.refl w.heap.size w) hG jH)
  | (refine zay _ rfl 6 rfl _ rfl _ zai ?_; intro W2 gr hgr hlr hR hG2; have hA2 := hA.grown0 hG2; have hb2 := zav hb1 hG2 jH)
  | (refine zay _ rfl 7 rfl _ rfl _ zai ?_; intro W3 gs hgs hls hS hG3; have hA3 : zaj W3 ga a := hA2.grown0 hG3; have hR3 : zaj W3 gr (znw 8) := hR.grown0 hG3; have hb3 := zav hb2 hG3 jH))
 have hS3 : zaj W3 gs (znw 8) := hS
 have n1 : ga ≠ gs := by have := hA2.lt; omega
 have n2 : gr ≠ gs := by have := hR.lt; omega
 have n3 : ga ≠ gr := by have := hA.lt; omega
 have hws : w.heap.size <= gs := by have := hb2.size; omega
 have hwr : w.heap.size <= gr := by have := hb1.size; omega
 have HB3 := jL hb3
 have hs1 := fun W => z2v (P := Tryz.prog) 24 23 8 gs 0 8 zae zkd none none (.inr ⟨rfl, rfl⟩) (.inr ⟨rfl, rfl⟩) (by omega) (by omega) W
 have hs2 := fun W => z2v (P := Tryz.prog) 24 23 8 ga 0 m zae zkd none (some (.int .i64 (m : Int))) (.inr ⟨rfl, rfl⟩) (.inl rfl) (by omega) (by omega) W
 simp only [if_neg (show ¬ 8 = 0 by omega), Nat.sub_zero] at hs1 hs2
 have e8 : (8 : Int) - ((c : Int) - (m : Int)) = ((8 - (c - m) : Nat) : Int) := by omega
 have hs3 := fun W => z2v (P := Tryz.prog) 24 23 8 gs (8 - (c - m)) 8 zae zkd (some (.int .i64 (8 - ((c : Int) - (m : Int))))) none (.inl (by rw [e8])) (.inr ⟨rfl, rfl⟩) (by omega) (by omega) W
 have hs4 := fun W => z2v (P := Tryz.prog) 24 23 8 ga m c zae zkd (some (.int .i64 (m : Int))) (some (.int .i64 (c : Int))) (.inl rfl) (.inl rfl) hm hc W
 simp only [show 8 - (8 - (c - m)) = c - m by omega] at hs3
 obtain ⟨A3, hA3e, hA30⟩ : ∃ A : Option Addr, A = some (if 8 = 8 - (c - m) then (⟨gs, 0, none⟩ : Addr) else ⟨gs, 8 - (c - m), none⟩) /\ (0 < c - m -> A = some ⟨gs, 8 - (c - m), none⟩) := ⟨_, rfl, fun h => by rw [if_neg (by omega)]⟩
 obtain ⟨A4, hA4e, hA40⟩ : ∃ A : Option Addr, A = some (if 8 = m then (⟨ga, 0, none⟩ : Addr) else ⟨ga, m, none⟩) /\ (0 < c - m -> A = some ⟨ga, m, none⟩) := ⟨_, rfl, fun h => by rw [if_neg (by omega)]⟩
 rw [<- hA3e] at hs3
 rw [<- hA4e] at hs4
 have HCM := jL (And.intro hm hc)
 have HA3 := jL hA30
 have HA4 := jL hA40
 clear hA3e hA4e e8 hb1 hb2 hb3 hG hG2 hG3 hA hA2 hR hS hA30 hA40
 go_still_tail 3, (by kernel_rfl)
 change wpList _ _ _ _ _ (World.drew _)
 have hx1 : Has (World.drew W3) W3.heap.size (some ⟨ga, 0, none⟩) m (uv (a.take m)) := by
  have := zmf (World.drew W3) ga a hA3 HAL.out 0 m (by have := HCM.out; omega) W3.heap.size hA3.lt (some ⟨ga, 0, none⟩) (fun _ => rfl)
  rwa [List.drop_zero] at this
 have hm8 : m <= 8 := by have := HCM.out; omega
 go_wp2_with (refine zmg _ rfl _ _ rfl gs 0 8 8 m 8 (some ⟨gs, 0, none⟩) (some ⟨ga, 0, none⟩) (by exact rfl) (by exact rfl) (znw 8) (show zaj (World.drew W3) gs _ from hS3) rfl (a.take m) _ hx1 hm8 (fun _ => rfl) (by omega) ?_; intro W4 hS4 hG4)
 have hA4 : zaj W4 ga a := Row.grown (show zaj (World.drew W3) ga a from hA3) hG4 n1
 have hR4 : zaj W4 gr (znw 8) := Row.grown (show zaj (World.drew W3) gr (znw 8) from hR3) hG4 n2
 have hb4 := zau (HB3.out.drew) hG4 jH hws
 have HB4 := jL hb4
 clear hG4 hb4 hA3 hR3 hS3 hx1
 obtain ⟨C, hC⟩ : ∃ C, C = (znw 8).take 0 ++ (a.take m ++ (znw 8).drop (0 + m)) := ⟨_, rfl⟩
 rw [<- hC] at hS4
 have hC8 : C.length = 8 := by rw [hC]; simp [znw, HAL.out]; omega
 have HC := jL hC
 have HC8 := jL hC8
 clear hC hC8
 have hw1 : IntKind.i64.wrap ((c : Int) - (m : Int)) = (c : Int) - (m : Int) := by have := HCM.out; rw [IntKind.wrap_i64]; omega
 have hw2 : IntKind.i64.wrap (8 - ((c : Int) - (m : Int))) = 8 - ((c : Int) - (m : Int)) := by have := HCM.out; rw [IntKind.wrap_i64]; omega
 go_still_tail 8, (by kernel_rfl)
 clear hw1 hw2
 change wpList _ _ _ _ _ (World.drew _)
 have hx2 : Has (World.drew W4) W4.heap.size A4 (c - m) (uv ((a.take c).drop m)) := by
  have := zmf (World.drew W4) ga a hA4 HAL.out m (c - m) (by have := HCM.out; omega) W4.heap.size hA4.lt A4 HA4.out
  rwa [show (a.drop m).take (c - m) = (a.take c).drop m by rw [List.drop_take]] at this
 obtain ⟨F, hF⟩ : ∃ F, F = C.take (8 - (c - m)) ++ ((a.take c).drop m ++ C.drop (8 - (c - m) + (c - m))) := ⟨_, rfl⟩
 have hFF : F = a.take m ++ (znw (8 - c) ++ (a.take c).drop m) := by
  rw [hF]
  exact zmh a HAL.out c m HCM.out.1 HCM.out.2 C HC.out
 have hF8 : F.length = 8 := by
  have := HCM.out
  rw [hFF]
  simp [znw, HAL.out]
  omega
 have HFF := jL hFF
 have HF8 := jL hF8
 clear hFF hF8
 go_wp2_with (first
  | (refine zmg _ rfl _ _ rfl gs (8 - (c - m)) (c - m) (c - m) (c - m) (8 - m) A3 A4 (by exact rfl) (by exact rfl) C (show zaj (World.drew W4) gs _ from hS4) HC8.out ((a.take c).drop m) _ hx2 jH HA3.out (by have := HCM.out; omega) ?_; intro W5 hS5 hG5; rw [<- hF] at hS5; have hR5 := Row.grown (show zaj (World.drew W4) gr (znw 8) from hR4) hG5 n2; have hb5 := zau (HB4.out.drew) hG5 jH hws)
  | (refine zaz _ rfl _ _ rfl gs (by exact rfl) _ (av F) hS5 8 _ zae (zah F HF8.out) ?_)
  | (refine za0 _ rfl rfl _ _ _ rfl gr (by exact rfl) (av F) (by exact rfl) _ _ hR5 (zah F HF8.out) (by rw [zaa, zaa, HF8.out]; rfl) (zac F) ?_; intro W6 hR6 hG6; have hb6 := zau hb5 hG6 jH hwr))
 refine za4 6 _ rfl gr (by exact rfl) _ (av F) hR6 8 _ zae (zah F HF8.out) (by exact rfl) ?_
 exact ⟨by rw [HFF.out], hb6⟩
end

end Go.Proofs.YtekaljeicfjkjaaGreatDoor
