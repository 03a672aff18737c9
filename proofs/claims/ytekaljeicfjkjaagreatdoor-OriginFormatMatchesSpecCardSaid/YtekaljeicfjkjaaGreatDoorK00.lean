/-
Small lemmas without a program: strings as lists of bytes, endings, slices of strings in memory.
Punycode in plain words: numbers as digits. No program.
Punycode in plain words: what a sequence of numbers inserts; it is the only one that leads to its result. No program.
-/
import Derived.WalkKit
import Derived.WalkSpells
import Derived.WalkLawsBesides
import Derived.Lib.Hide
import Derived.Laws.BytesArg
namespace Go.Proofs.YtekaljeicfjkjaaGreatDoor
section
open Go.RowKit
set_option maxHeartbeats 16000000
theorem jL {p : Prop} (h : p) : Hid p := Lib.hid h
theorem jH {n : Nat} : n <= n := Nat.le_refl n
theorem jT {p : Prop} [Decidable p] (h : p) : decide p = true := decide_eq_true h
theorem jF {p : Prop} [Decidable p] (h : ¬ p) : decide p = false := decide_eq_false h
theorem jqd {i : Nat} {a : Value} {l : List Value} : l.toArray.setIfInBounds i a = (l.set i a).toArray := List.setIfInBounds_toArray ..
theorem jqe {a b : Value} {l : List Value} : (a :: l).set 0 b = b :: l := rfl
theorem jqf {a b : Value} {l : List Value} {i : Nat} : (a :: l).set (i + 1) b = a :: l.set i b := rfl
theorem zbx {a b : Bool} (h : a = b) : Ending.returned (.bool a) = .returned (.bool b) := by rw [h]
theorem zby {k : IntKind} {a b : Int} (h : a = b) : Ending.returned (.int k a) = .returned (.int k b) := by rw [h]
theorem zbz {a b : ByteArray} (h : a = b) : Ending.returned (.string a) = .returned (.string b) := by rw [h]
def ls (s : ByteArray) : List UInt8 := s.data.toList
def bs (l : List UInt8) : ByteArray := ⟨l.toArray⟩
theorem zb0 (l : List UInt8) : ls (bs l) = l := rfl
theorem zb1 (s : ByteArray) : bs (ls s) = s := by cases s; rfl
theorem zb2 {a b : ByteArray} (h : ls a = ls b) : a = b := by rw [<- zb1 a, <- zb1 b, h]
theorem zb3 (s : ByteArray) : s.toList = ls s := ByteArray.toList_eq s
theorem zb4 (s : ByteArray) : (ls s).length = s.size := by cases s; rfl
theorem zb5 (l : List UInt8) : (bs l).size = l.length := by rw [<- zb4, zb0]
theorem zb6 (a b : ByteArray) : ls (a ++ b) = ls a ++ ls b := by simp [ls, ByteArray.data_append]
theorem zb7 (s : ByteArray) (k : Nat) (h : k < s.size) : (ls s)[k]? = some s[k] := by
 have h' : k < (ls s).length := by rw [zb4]; exact h
 rw [List.getElem?_eq_getElem h']; rfl
theorem zb8 (s : ByteArray) (k : Nat) (_h : k < s.size) (h' : k < (ls s).length) : (ls s)[k] = s[k] := rfl
theorem zb9 (s : ByteArray) (a b : Nat) : ls (s.extract a b) = ((ls s).drop a).take (b - a) := by
 simp [ls, ByteArray.data_extract]
theorem zca (s : ByteArray) (k : Nat) (h : k < s.size) : (ls s).take (k + 1) = (ls s).take k ++ [s[k]] := by
 rw [List.take_succ_eq_append_getElem (by rw [zb4]; exact h)]; rfl
theorem zcb (s : ByteArray) : (ls s).take s.size = ls s := by rw [<- zb4, List.take_length]
theorem zcc (s : ByteArray) (k : Nat) (h : k < s.size) : (ls s).drop k = s[k] :: (ls s).drop (k + 1) := by
 rw [List.drop_eq_getElem_cons (by rw [zb4]; exact h)]; rfl
theorem zcd (s : ByteArray) : (ls s).drop s.size = [] := by rw [<- zb4, List.drop_length]
theorem zce (c : UInt8) : (c.toNat : Int) < 256 := by have := c.toNat_lt; omega
def bv (c : UInt8) : Value := .int .u8 (c.toNat : Int)
theorem zcf (c : UInt8) : bv c = .int .u8 (c.toNat : Int) := rfl
def zcg (n : Nat) : Array Value := Array.replicate n (.int .u8 0)
theorem zch (n : Nat) : madeCells #[.int .u8 0] n = zcg n := by
 apply Array.ext
 ·simp [madeCells, zcg]
 ·intro i h1 h2
  simp [madeCells, zcg, Nat.mod_one]
def zci (l : List UInt8) (n k : Nat) : Array Value := ((l.take k).map bv ++ List.replicate (n - k) (Value.int .u8 0)).toArray
theorem zcj (l : List UInt8) (n : Nat) : zci l n 0 = zcg n := by simp [zci, zcg]
theorem zck (l : List UInt8) (n k : Nat) (h : l.length = n) (hk : k < n) : (zci l n k)[k]? = some (.int .u8 0) := by
 simp only [zci, List.getElem?_toArray]
 rw [List.getElem?_append_right (by simp; omega)]
 simp only [List.length_map, List.length_take]
 rw [List.getElem?_replicate, if_pos (by omega)]
theorem zcl (l : List UInt8) (n k : Nat) (h : l.length = n) (hk : k < n) (c : UInt8) (hc : l[k]? = some c) :
 (zci l n k).setIfInBounds k (.int .u8 (c.toNat : Int)) = zci l n (k + 1) := by
 have hlk : k < l.length := by omega
 have hc' : l[k] = c := by rw [List.getElem?_eq_getElem hlk] at hc; exact Option.some.inj hc
 simp only [zci, List.setIfInBounds_toArray]
 congr 1
 rw [List.set_append_right _ _ (by simp; omega)]
 simp only [List.length_map, List.length_take]
 rw [List.take_succ_eq_append_getElem hlk, hc']
 rw [show n - k = (n - (k + 1)) + 1 by omega, show k - min k l.length = 0 by omega]
 simp [List.replicate_succ, bv]
theorem zcm (l : List UInt8) (n j : Nat) (h : l.length = n) (hj : j < n) : (zci l n n)[j]? = some (.int .u8 ((l.map fun c => (c.toNat : Int)).getD j 0)) := by
 have hlj : j < l.length := by omega
 simp only [zci, List.getElem?_toArray]
 rw [List.getElem?_append_left (by simp; omega)]
 simp [List.take_of_length_le (Nat.le_of_eq h), bv, List.getD, List.getElem?_eq_getElem hlj]
theorem zcn (l : List UInt8) : strOfNums (l.map fun c => (c.toNat : Int)) = bs l := by
 have e : ((fun n : Int => UInt8.ofNat n.toNat) ∘ fun c : UInt8 => (c.toNat : Int)) = id := by funext c; simp
 simp [strOfNums, bs, e]
theorem zco {w0 w w' : World} {base e size n : Nat} {v : Value} {xs : List Value} (hown : w.ownsRow base e size v n xs) (hb : Below base w0 w) (hbase : base <= w.heap.size) (hg : w.grownBy w' v.ownBlock) : Below base w0 w' :=
 hb.grown hg hbase fun k hk => (hown.lt k hk).1
theorem zcp {a b c : World} {row : Option Nat} (h : a.grownBy b row) (k : b.grownBy c row) : a.grownBy c row :=
 ⟨k.os.trans h.os, k.tape.trans h.tape, k.output.trans h.output, Nat.le_trans h.size k.size, fun i hi hne => (k.block i (Nat.lt_of_lt_of_le hi h.size) hne).trans (h.block i hi hne)⟩
theorem zcq {P : Program} {w0 : World} (wr : World) {ops : Array Oper} {rest : List Oper} {o : Oper} {a : Act} {Q : Exit -> Act -> World -> Prop} (hgd : o.guard = none) (s x : Operand) (t : TypeId)
 (ho : o.op = .call { callee := .builtin .append, args := #[s, x], argTypes := #[t, t] })
 (base : Nat) (e : TypeId) (i : TypeInfo) (z : Value) (bytes : Nat) (ht : P.underlying t = some (.slice e)) (hi : P.info? e = some i) (hz : i.zero = some z)
 (hsize : i.size = 1) (hby : i.bytes = bytes) (hzs : z.cells.size = 1) (u : Value) (hu : u.oneCell' = true)
 (v : Value) (n : Nat) (xs : List Value) (hs : a.eval s = v) (hown : wr.ownsRow base e 1 v n xs) (hx : a.eval x = .slice (some ⟨wr.heap.size, 0, none⟩) 1 1)
 (h63 : n + 1 <= maxLen) (hbytes : (n + 1) * bytes <= 140737488355328) (hb : Below base w0 wr) (hbase : base <= w0.heap.size)
 (h : ∀ v' w', w'.ownsRow base e 1 v' (n + 1) (xs ++ [u]) -> Below base w0 w' -> wr.grownBy w' v.ownBlock -> wpList P ops Q rest (a.put o.dst v') w') : wpList P ops Q (o :: rest) a (wr.alloc (.cells #[u] e)) := by
 have hsz := hb.size
 have hbw : base <= wr.heap.size := by omega
 refine wpList_append_own _ hgd s x t ho base e i z 1 bytes ht hi hz hsize hby hzs (by decide) v n xs hs (hown.alloc _) ⟨wr.heap.size, 0, none⟩ 1 1 [u] hx rfl ?_ ?_ h63 hbytes (by simp; omega) ?_
 ·intro j q hj
  match j, hj with
  | 0, hj =>
    simp at hj
    subst hj
    simp [Addr.add, World.cell?_alloc_at _ _ _ _ rfl]
 ·intro q hq
  simp at hq
  subst hq
  exact hu
 ·intro v' w' hown' hgrow _
  exact h v' w' hown' (zco (hown.alloc _) (hb.alloc hbw _) (by simp; omega) hgrow) (zcp (World.grownBy_alloc wr _ _) hgrow)
theorem zcr {w : World} {base e n : Nat} {v : Value} {xs : List Value} (h : w.ownsRow base e 1 v n xs) (hn : 0 < n) :
 ∃ g cap, v = .slice (some ⟨g, 0, none⟩) n cap /\ base <= g /\ g < w.heap.size /\ ∀ j (hj : j < xs.length), w.cell? ⟨g, j, none⟩ = some xs[j] := by
 rcases h.2 with ⟨rfl, h0⟩ | ⟨g, cap, cur, rfl, hb, hg, hnc, _, _, htake⟩
 ·omega
 ·refine ⟨g, cap, rfl, hb, (Array.getElem?_eq_some_iff.1 hg).1, fun j hj => ?_⟩
  have := h.cells (g := g) rfl j xs[j] (List.getElem?_eq_getElem hj)
  have hadd : (⟨g, 0, none⟩ : Addr).add j = ⟨g, j, none⟩ := by unfold Addr.add; split <;> simp_all
  rwa [hadd] at this
def Has (w : World) (B : Nat) (A : Option Addr) (n : Nat) (xs : List Value) : Prop :=
 xs.length = n /\ (0 < n -> ∃ b off, A = some ⟨b, off, none⟩ /\ b < B /\ ∀ j (h : j < xs.length), w.cell? ⟨b, off + j, none⟩ = some xs[j])
section
variable {w w' : World} {B B' n : Nat} {A : Option Addr} {xs : List Value}
theorem Has.nil (w : World) (B : Nat) (A : Option Addr) : Has w B A 0 [] := ⟨rfl, fun h => absurd h (by omega)⟩
theorem Has.keep (h : Has w B A n xs) (hk : ∀ p : Addr, p.block < B -> w'.cell? p = w.cell? p) : Has w' B A n xs :=
 ⟨h.1, fun hn => by
   obtain ⟨b, off, e, hb, hc⟩ := h.2 hn
   exact ⟨b, off, e, hb, fun j hj => (hk _ hb).trans (hc j hj)⟩⟩
theorem Has.more (h : Has w B A n xs) (hB : B <= B') : Has w B' A n xs :=
 ⟨h.1, fun hn => by
   obtain ⟨b, off, e, hb, hc⟩ := h.2 hn
   exact ⟨b, off, e, by omega, hc⟩⟩
theorem Has.below (h : Has w B A n xs) (hb : Below B w w') : Has w' B A n xs := h.keep fun _ hp => hb.cell hp
theorem Has.below' (h : Has w B A n xs) (hb : Below B' w w') (hB : B <= B') : Has w' B A n xs := h.keep fun _ hp => hb.cell (by omega)
theorem Has.drewN (h : Has w B A n xs) (k : Nat) : Has (w.drewN k) B A n xs := h
theorem Has.alloc (h : Has w B A n xs) (hB : B <= w.heap.size) (o : Obj) : Has (w.alloc o) B A n xs := h.keep fun p hp => World.cell?_alloc_lt w o p (by omega)
theorem Has.of_own {base : Nat} {e : TypeId} {v : Value} (h : w.ownsRow base e 1 v n xs) : ∃ A c, v = .slice A n c /\ Has w w.heap.size A n xs /\ n <= c := by
 have hx := h
 rcases h.2 with ⟨rfl, rfl⟩ | ⟨g, cap, cur, rfl, hb, hg, hnc, _⟩
 ·have : xs = [] := List.eq_nil_of_length_eq_zero (by simpa using h.1)
  subst this
  exact ⟨none, 0, rfl, Has.nil _ _ _, jH⟩
 ·refine ⟨_, cap, rfl, ⟨by simpa using h.1, fun hn => ?_⟩, hnc⟩
  obtain ⟨g', cap', hv, _, hlt, hc⟩ := zcr hx hn
  injection hv with hv1 hv2 hv3
  injection hv1 with hv1
  injection hv1 with hv1
  subst hv1
  exact ⟨g, 0, rfl, hlt, fun j hj => by rw [Nat.zero_add]; exact hc j hj⟩
theorem Has.at_ (h : Has w B A n xs) {k : Nat} (hk : k < n) : ∃ b off, A = some ⟨b, off, none⟩ /\ b < B /\ w.cell? ⟨b, off + k, none⟩ = some (xs[k]'(by rw [h.1]; exact hk)) := by
 obtain ⟨b, off, e, hb, hc⟩ := h.2 (by omega)
 exact ⟨b, off, e, hb, hc k _⟩
theorem Has.two (w : World) (u v : Value) (t : TypeId) : Has (w.alloc (.cells #[u, v] t)) (w.heap.size + 1) (some ⟨w.heap.size, 0, none⟩) 2 [u, v] :=
 ⟨rfl, fun _ => ⟨w.heap.size, 0, rfl, by omega, fun j hj => by
   rw [World.cell?_alloc_at _ _ _ _ rfl, Nat.zero_add]
   match j, hj with
   | 0, _ => rfl
   | 1, _ => rfl⟩⟩
end
end

section
open Go.RowKit
set_option maxHeartbeats 16000000
def ptN (n : Nat) : Bool := decide (n <= 1114111) && (decide (n < 55296) || decide (57343 < n))
theorem zzo {n : Nat} (h : ptN n = true) : n <= 1114111 := by
 unfold ptN at h
 simp at h
 exact h.1
def thr (k bias : Nat) : Nat := max 1 (min 26 (36 * (k + 1) - bias))
theorem zzp (k bias : Nat) : 1 <= thr k bias /\ thr k bias <= 26 := by unfold thr; omega
def zzq (d k : Nat) : Nat := if 455 < d then zzq (d / 35) (k + 36) else k + 36 * d / (d + 38)
termination_by d
decreasing_by omega
def adp (delta n : Nat) (first : Bool) : Nat := zzq ((if first then delta / 700 else delta / 2) + (if first then delta / 700 else delta / 2) / n) 0
theorem zzr (q t : Nat) (h : ¬ q < t) (ht : 1 <= t) : (q - t) / (36 - t) < q := by
 have := Nat.div_le_self (q - t) (36 - t)
 omega
def zzs (q k bias : Nat) : List Nat := if q < thr k bias then [q] else (thr k bias + (q - thr k bias) % (36 - thr k bias)) :: zzs ((q - thr k bias) / (36 - thr k bias)) (k + 1) bias
termination_by q
decreasing_by exact zzr _ _ ‹_› (zzp k bias).1
theorem zzt {q k bias : Nat} (h : q < thr k bias) : zzs q k bias = [q] := by rw [zzs, if_pos h]
theorem zzu {q k bias : Nat} (h : ¬ q < thr k bias) : zzs q k bias = (thr k bias + (q - thr k bias) % (36 - thr k bias)) :: zzs ((q - thr k bias) / (36 - thr k bias)) (k + 1) bias := by rw [zzs, if_neg h]
theorem zzv (t d v : Nat) (h1 : t <= d) (h2 : d < 36) (ht : t <= 26) : ¬ d + (36 - t) * v < t /\ t + (d + (36 - t) * v - t) % (36 - t) = d /\ (d + (36 - t) * v - t) / (36 - t) = v := by
 have e : d + (36 - t) * v - t = (d - t) + (36 - t) * v := by omega
 refine ⟨by omega, ?_, ?_⟩
 ·rw [e, Nat.add_mul_mod_self_left, Nat.mod_eq_of_lt (by omega)]
  omega
 ·rw [e, Nat.add_mul_div_left _ _ (by omega), Nat.div_eq_of_lt (by omega), Nat.zero_add]
theorem zzw : ∀ (m q k bias : Nat), q <= m -> ∀ d ∈ zzs q k bias, d < 36
 | m, q, k, bias, hm, d, hd => by
   have ht := zzp k bias
   by_cases h : q < thr k bias
   ·rw [zzt h] at hd
    simp at hd
    omega
   ·rw [zzu h] at hd
    have hl := zzr q _ h ht.1
    rcases List.mem_cons.1 hd with rfl | hd
    ·have := Nat.mod_lt (q - thr k bias) (show 0 < 36 - thr k bias by omega)
     omega
    ·match m with
     | 0 => omega
     | m + 1 => exact zzw m _ _ _ (by omega) d hd
theorem zzx : ∀ (m q k bias : Nat), q < 10 ^ m -> (zzs q k bias).length <= m + 1
 | 0, q, k, bias, h => by
   have ht := zzp k bias
   rw [zzt (by simp at h; omega)]
   simp
 | m + 1, q, k, bias, h => by
   have ht := zzp k bias
   by_cases hq : q < thr k bias
   ·rw [zzt hq]; simp
   ·rw [zzu hq, List.length_cons]
    have : (q - thr k bias) / (36 - thr k bias) < 10 ^ m := by
     have h1 : (q - thr k bias) / (36 - thr k bias) <= (q - thr k bias) / 10 := Nat.div_le_div_left (by omega) (by omega)
     have h2 : (q - thr k bias) / 10 < 10 ^ m := by rw [Nat.pow_succ] at h; omega
     omega
    have := zzx m _ (k + 1) bias this
    omega
theorem zzy (q k bias : Nat) : zzs q k bias ≠ [] := by
 rw [zzs]
 split <;> simp
def zzz (d : Nat) : UInt8 := if d < 26 then UInt8.ofNat (97 + d) else UInt8.ofNat (22 + d)
def zz0 (b : UInt8) : Option Nat := if 97 <= b.toNat /\ b.toNat <= 122 then some (b.toNat - 97) else if 65 <= b.toNat /\ b.toNat <= 90 then some (b.toNat - 65) else if 48 <= b.toNat /\ b.toNat <= 57 then some (b.toNat - 22) else none
theorem zz1 : ∀ d : Fin 36, zz0 (zzz d.val) = some d.val := by decide +kernel
theorem zz2 : ∀ d : Fin 36, (97 <= (zzz d.val).toNat /\ (zzz d.val).toNat <= 122) \/ (48 <= (zzz d.val).toNat /\ (zzz d.val).toNat <= 57) := by decide +kernel
theorem zz3 {b : UInt8} {d : Nat} (h : zz0 b = some d) : d < 36 := by
 unfold zz0 at h
 split at h
 ·injection h; omega
 ·split at h
  ·injection h; omega
  ·split at h
   ·injection h; omega
   ·cases h
def zz4 (b : UInt8) : UInt8 := match zz0 b with
 | some d => zzz d
 | none => b
theorem zz5 {b : UInt8} {d : Nat} (h : zz0 b = some d) : zz4 b = zzz d := by unfold zz4; rw [h]
def zz6 : List Nat -> Nat -> Nat -> Bool -> List UInt8
 | [], _, _, _ => []
 | d :: r, bias, done, first => (zzs d 0 bias).map zzz ++ zz6 r (adp d (done + 1) first) (done + 1) false
def zz7 : List Nat -> Nat -> Nat -> Bool -> Nat
 | [], bias, _, _ => bias
 | d :: r, _, done, first => zz7 r (adp d (done + 1) first) (done + 1) false
theorem zz8 : ∀ (ds : List Nat) (d bias done : Nat) (first : Bool), zz6 (ds ++ [d]) bias done first = zz6 ds bias done first ++ (zzs d 0 (zz7 ds bias done first)).map zzz
 | [], d, bias, done, first => by simp [zz6, zz7]
 | e :: ds, d, bias, done, first => by
   rw [List.cons_append, zz6, zz8 ds, zz6, zz7, List.append_assoc]
theorem zz9 : ∀ (ds : List Nat) (d bias done : Nat) (first : Bool), zz7 (ds ++ [d]) bias done first = adp d (done + ds.length + 1) (first && ds.isEmpty)
 | [], d, bias, done, first => by simp [zz7]
 | e :: ds, d, bias, done, first => by
   rw [List.cons_append, zz7, zz9 ds]
   simp only [List.length_cons, List.isEmpty_cons, Bool.and_false, Bool.false_and]
   rw [show done + 1 + ds.length + 1 = done + (ds.length + 1) + 1 by omega]
theorem z0a : ∀ (ds : List Nat) (bias done : Nat) (first : Bool), ∀ b ∈ zz6 ds bias done first, ∃ d, d < 36 /\ b = zzz d
 | [], _, _, _, b, h => by simp [zz6] at h
 | d :: r, bias, done, first, b, h => by
   rw [zz6, List.mem_append] at h
   rcases h with h | h
   ·obtain ⟨e, he, rfl⟩ := List.mem_map.1 h
    exact ⟨e, zzw d d 0 bias jH e he, rfl⟩
   ·exact z0a r _ _ _ b h
theorem z0b : ∀ (m : Nat) (ds : List Nat) (bias done : Nat) (first : Bool), (∀ d ∈ ds, d < 10 ^ m) -> (zz6 ds bias done first).length <= (m + 1) * ds.length
 | m, [], _, _, _, _ => by simp [zz6]
 | m, d :: r, bias, done, first, h => by
   have h1 := zzx m d 0 bias (h d (by simp))
   have h2 := z0b m r (adp d (done + 1) first) (done + 1) false (fun x hx => h x (by simp [hx]))
   rw [zz6, List.length_append, List.length_map, List.length_cons, Nat.mul_add]
   omega
def z0c : List UInt8 -> Nat -> Nat -> Nat -> Nat -> Except Nat (Nat × List UInt8)
 | [], _, _, _, _ => .error 4
 | b :: r, bias, k, w, i => match zz0 b with
   | none => .error 4
   | some d => if 1099511627776 < i + d * w then .error 19 else if d < thr k bias then .ok (i + d * w, r) else if 1099511627776 < w * (36 - thr k bias) then .error 19 else z0c r bias (k + 1) (w * (36 - thr k bias)) (i + d * w)
theorem z0d : ∀ (m q k bias w i : Nat) (r : List UInt8), q <= m -> 1 <= w -> i + q * w <= 17179869184 -> z0c ((zzs q k bias).map zzz ++ r) bias k w i = .ok (i + q * w, r)
 | m, q, k, bias, w, i, r, hm, hw, hB => by
   have ht := zzp k bias
   by_cases h : q < thr k bias
   ·rw [zzt h, List.map_cons, List.map_nil, List.cons_append, List.nil_append, z0c, zz1 ⟨q, by omega⟩]
    simp only
    rw [if_neg (by omega), if_pos h]
   ·have hl := zzr q _ h ht.1
    have hmod := Nat.mod_lt (q - thr k bias) (show 0 < 36 - thr k bias by omega)
    have hdm := Nat.mod_add_div (q - thr k bias) (36 - thr k bias)
    rw [zzu h, List.map_cons, List.cons_append, z0c, zz1 ⟨thr k bias + (q - thr k bias) % (36 - thr k bias), by omega⟩]
    simp only
    obtain ⟨t, rfl⟩ : ∃ t, t = thr k bias := ⟨_, rfl⟩
    generalize thr k bias = t at *
    generalize hd : (q - t) % (36 - t) = d at *
    generalize hv : (q - t) / (36 - t) = v at *
    have hq : q = t + d + (36 - t) * v := by omega
    have hqw : q * w = (t + d) * w + v * (w * (36 - t)) := by
     rw [hq, Nat.add_mul, Nat.mul_comm (36 - t) v, Nat.mul_assoc, Nat.mul_comm (36 - t) w]
    have h1 : 1 * w <= (t + d) * w := Nat.mul_le_mul_right _ (by omega)
    have h2 : w * (36 - t) <= w * 35 := Nat.mul_le_mul_left _ (by omega)
    have h3 : 1 * 1 <= w * (36 - t) := Nat.mul_le_mul hw (by omega)
    rw [if_neg (by omega), if_neg (by omega), if_neg (by omega)]
    match m with
    | 0 => omega
    | m + 1 =>
      rw [z0d m v (k + 1) bias _ _ r (by omega) (by omega) (by omega), hqw, Nat.add_assoc]
theorem z0e : ∀ (l : List UInt8) (bias k w i j : Nat) (r : List UInt8), z0c l bias k w i = .ok (j, r) -> ∃ q x, l = x ++ r /\ x ≠ [] /\ x.map zz4 = (zzs q k bias).map zzz /\ j = i + q * w
 | [], bias, k, w, i, j, r, h => by cases h
 | b :: l, bias, k, w, i, j, r, h => by
   have ht := zzp k bias
   rw [z0c] at h
   cases hp : zz0 b with
   | none => rw [hp] at h; cases h
   | some d =>
     rw [hp] at h
     simp only at h
     have hd := zz3 hp
     split at h
     ·cases h
     ·split at h
      ·rename_i hdt
       injection h with h
       injection h with h1 h2
       subst h1 h2
       refine ⟨d, [b], rfl, by simp, ?_, rfl⟩
       rw [zzt hdt]
       simp [zz5 hp]
      ·split at h
       ·cases h
       ·rename_i hdt _
        obtain ⟨v, x, e1, _, e2, e3⟩ := z0e l bias (k + 1) _ _ j r h
        obtain ⟨g1, g2, g3⟩ := zzv (thr k bias) d v (by omega) hd ht.2
        refine ⟨d + (36 - thr k bias) * v, b :: x, by rw [e1]; rfl, by simp, ?_, ?_⟩
        ·rw [zzu g1, g2, g3, List.map_cons, List.map_cons, e2, zz5 hp]
        ·rw [e3, Nat.add_mul, Nat.mul_comm (36 - thr k bias) v, Nat.mul_assoc, Nat.mul_comm (36 - thr k bias) w]
         omega
end

section
open Go.RowKit
set_option maxHeartbeats 16000000
structure PSt where
 out : List Nat
 n : Nat
 i : Nat
def PSt.pos (s : PSt) (v : Nat) : Nat := (s.i + v) % (s.out.length + 1)
def PSt.val (s : PSt) (v : Nat) : Nat := s.n + (s.i + v) / (s.out.length + 1)
def PSt.step (s : PSt) (v : Nat) : PSt := ⟨s.out.take (s.pos v) ++ s.val v :: s.out.drop (s.pos v), s.val v, s.pos v + 1⟩
def PSt.run : PSt -> List Nat -> PSt
 | s, [] => s
 | s, v :: r => (s.step v).run r
theorem PSt.pos_le (s : PSt) (v : Nat) : s.pos v <= s.out.length := by
 have := Nat.mod_lt (s.i + v) (show 0 < s.out.length + 1 by omega)
 unfold PSt.pos
 omega
theorem PSt.eq (s : PSt) (v : Nat) : s.i + v = (s.val v - s.n) * (s.out.length + 1) + s.pos v := by
 have := Nat.div_add_mod (s.i + v) (s.out.length + 1)
 unfold PSt.val PSt.pos
 rw [Nat.add_sub_cancel_left, Nat.mul_comm]
 exact this.symm
theorem PSt.step_len (s : PSt) (v : Nat) : (s.step v).out.length = s.out.length + 1 := by
 have := s.pos_le v
 unfold PSt.step
 simp
 omega
theorem PSt.run_len : ∀ (ds : List Nat) (s : PSt), (s.run ds).out.length = s.out.length + ds.length
 | [], s => rfl
 | v :: r, s => by
   rw [PSt.run, PSt.run_len r, PSt.step_len, List.length_cons]
   omega
theorem PSt.run_append : ∀ (a b : List Nat) (s : PSt), s.run (a ++ b) = (s.run a).run b
 | [], b, s => rfl
 | v :: r, b, s => by rw [List.cons_append, PSt.run, PSt.run_append r b, PSt.run]
structure PSt.Inv (s : PSt) : Prop where
 le : s.i <= s.out.length
 low : ∀ x ∈ s.out.take s.i, x <= s.n
 high : ∀ x ∈ s.out.drop s.i, x < s.n
theorem PSt.Inv.all {s : PSt} (h : s.Inv) : ∀ x ∈ s.out, x <= s.n := by
 intro x hx
 rw [<- List.take_append_drop s.i s.out, List.mem_append] at hx
 rcases hx with hx | hx
 ·exact h.low x hx
 ·exact Nat.le_of_lt (h.high x hx)
theorem PSt.val_ge (s : PSt) (v : Nat) : s.n <= s.val v := Nat.le_add_right _ _
theorem PSt.pos_same {s : PSt} {v : Nat} (h : s.val v = s.n) : s.i <= s.pos v := by
 have e := s.eq v
 rw [h, Nat.sub_self, Nat.zero_mul] at e
 omega
theorem PSt.Inv.behind {s : PSt} (h : s.Inv) (v : Nat) : ∀ x ∈ s.out.drop (s.pos v), x < s.val v := by
 intro x hx
 by_cases hv : s.val v = s.n
 ·rw [hv]
  refine h.high x ?_
  have hp := PSt.pos_same hv
  rw [show s.pos v = s.i + (s.pos v - s.i) by omega, <- List.drop_drop] at hx
  exact List.mem_of_mem_drop hx
 ·have := h.all x (List.mem_of_mem_drop hx)
  have := s.val_ge v
  omega
theorem PSt.take_step (s : PSt) (v : Nat) : (s.step v).out.take (s.pos v + 1) = s.out.take (s.pos v) ++ [s.val v] := by
 have := s.pos_le v
 have hl : (s.out.take (s.pos v)).length = s.pos v := by rw [List.length_take]; omega
 show (s.out.take (s.pos v) ++ s.val v :: s.out.drop (s.pos v)).take (s.pos v + 1) = _
 rw [List.take_append, hl, show s.pos v + 1 - s.pos v = 1 by omega, List.take_of_length_le (by omega)]
 rfl
theorem PSt.drop_step (s : PSt) (v : Nat) : (s.step v).out.drop (s.pos v + 1) = s.out.drop (s.pos v) := by
 have := s.pos_le v
 have hl : (s.out.take (s.pos v)).length = s.pos v := by rw [List.length_take]; omega
 show (s.out.take (s.pos v) ++ s.val v :: s.out.drop (s.pos v)).drop (s.pos v + 1) = _
 rw [List.drop_append, hl, show s.pos v + 1 - s.pos v = 1 by omega, List.drop_of_length_le (by omega)]
 rfl
theorem PSt.Inv.step {s : PSt} (h : s.Inv) (v : Nat) : (s.step v).Inv := by
 refine ⟨?_, ?_, ?_⟩
 ·rw [PSt.step_len]
  have := s.pos_le v
  show s.pos v + 1 <= _
  omega
 ·show ∀ x ∈ (s.step v).out.take (s.pos v + 1), x <= s.val v
  rw [PSt.take_step]
  intro x hx
  rcases List.mem_append.1 hx with hx | hx
  ·have := h.all x (List.mem_of_mem_take hx)
   have := s.val_ge v
   omega
  ·simp at hx
   omega
 ·show ∀ x ∈ (s.step v).out.drop (s.pos v + 1), x < s.val v
  rw [PSt.drop_step]
  exact h.behind v
theorem z0k (n : Nat) (l : List Nat) : (l.filter (fun x => decide (x <= n))).filter (fun x => decide (x < n)) = l.filter (fun x => decide (x < n)) := by
 rw [List.filter_filter]
 congr 1
 funext x
 by_cases h : x < n
 ·simp [h, Nat.le_of_lt h]
 ·simp [h]
theorem z0l {n m : Nat} (h : n < m) (l : List Nat) : (l.filter (fun x => decide (x < m))).filter (fun x => decide (x <= n)) = l.filter (fun x => decide (x <= n)) := by
 rw [List.filter_filter]
 congr 1
 funext x
 by_cases hx : x <= n
 ·simp [hx]; omega
 ·simp [hx]
theorem z0m {n m : Nat} (h : n <= m) (l : List Nat) : (l.filter (fun x => decide (x <= m))).filter (fun x => decide (x <= n)) = l.filter (fun x => decide (x <= n)) := by
 rw [List.filter_filter]
 congr 1
 funext x
 by_cases hx : x <= n
 ·simp [hx]; omega
 ·simp [hx]
theorem z0n {p : Nat -> Bool} {l : List Nat} (h : ∀ x ∈ l, p x = true) : l.filter p = l := List.filter_eq_self.2 h
theorem z0o {p : Nat -> Bool} {l : List Nat} (h : ∀ x ∈ l, p x = false) : l.filter p = [] := by
 rw [List.filter_eq_nil_iff]
 intro x hx
 rw [h x hx]
 simp
theorem PSt.back : ∀ (ds : List Nat) (s : PSt), s.Inv -> ∃ A B, (s.run ds).out = A ++ B /\ A.filter (fun x => decide (x <= s.n)) = s.out.take s.i /\ B.filter (fun x => decide (x < s.n)) = s.out.drop s.i
 | [], s, h => ⟨s.out.take s.i, s.out.drop s.i, (List.take_append_drop _ _).symm, z0n (fun x hx => jT (h.low x hx)), z0n (fun x hx => jT (h.high x hx))⟩
 | v :: r, s, h => by
   obtain ⟨A', B', e, hA, hB⟩ := PSt.back r (s.step v) (h.step v)
   rw [PSt.run, e]
   change A'.filter (fun x => decide (x <= s.val v)) = (s.step v).out.take (s.pos v + 1) at hA
   change B'.filter (fun x => decide (x < s.val v)) = (s.step v).out.drop (s.pos v + 1) at hB
   rw [PSt.take_step] at hA
   rw [PSt.drop_step] at hB
   by_cases hv : s.val v = s.n
   ·have hp := PSt.pos_same hv
    rw [hv] at hA hB
    have hsp : s.out.take (s.pos v) ++ [s.n] = s.out.take s.i ++ ((s.out.drop s.i).take (s.pos v - s.i) ++ [s.n]) := by
     rw [<- List.append_assoc]
     congr 1
     rw [<- List.take_add, show s.i + (s.pos v - s.i) = s.pos v by omega]
    rw [hsp] at hA
    obtain ⟨A, A2, e2, h1, h2⟩ := List.filter_eq_append_iff.1 hA
    refine ⟨A, A2 ++ B', by rw [e2, List.append_assoc], h1, ?_⟩
    have h3 : A2.filter (fun x => decide (x < s.n)) = (s.out.drop s.i).take (s.pos v - s.i) := by
     rw [<- z0k, h2, List.filter_append, z0n (fun x hx => jT (h.high x (List.mem_of_mem_take hx)))]
     simp
    rw [List.filter_append, h3, hB]
    have h4 : s.out.drop (s.pos v) = (s.out.drop s.i).drop (s.pos v - s.i) := by rw [List.drop_drop, show s.i + (s.pos v - s.i) = s.pos v by omega]
    rw [h4, List.take_append_drop]
   ·have hlt : s.n < s.val v := by have := s.val_ge v; omega
    have h1 : (A' ++ B').filter (fun x => decide (x <= s.n)) = s.out.take s.i ++ s.out.drop s.i := by
     rw [List.filter_append, <- z0m (Nat.le_of_lt hlt) A', hA, <- z0l hlt B', hB, List.filter_append,
      z0n (l := s.out.take (s.pos v)) (fun x hx => jT (h.all x (List.mem_of_mem_take hx))), z0n (l := s.out.drop (s.pos v)) (fun x hx => jT (h.all x (List.mem_of_mem_drop hx))),
      z0o (l := [s.val v]) (fun x hx => by simp at hx; subst hx; exact jF (by omega)), List.append_nil, List.take_append_drop, List.take_append_drop]
    obtain ⟨A, B, e2, h2, h3⟩ := List.filter_eq_append_iff.1 h1
    refine ⟨A, B, e2, h2, ?_⟩
    rw [<- z0k, h3, z0n (fun x hx => jT (h.high x hx))]
theorem z0p {m n : Nat} (h : m < n) (l : List Nat) : (l.filter (fun x => decide (x < n))).count m = l.count m := List.count_filter (by simpa using h)
theorem z0q {m n : Nat} (h : m <= n) (l : List Nat) : (l.filter (fun x => decide (x <= n))).count m = l.count m := List.count_filter (by simpa using h)
theorem z0r (m k : Nat) (l : List Nat) : (l.take k).count m + (l.drop k).count m = l.count m := by rw [<- List.count_append, List.take_append_drop]
theorem z0s {m : Nat} {l : List Nat} (h : ∀ x ∈ l, x ≠ m) : l.count m = 0 := List.count_eq_zero.2 (fun hm => h m hm rfl)
theorem PSt.next {s : PSt} (h : s.Inv) (v : Nat) (r : List Nat) : ∃ A B, (s.run (v :: r)).out = A ++ B /\ A.filter (fun x => decide (x <= s.val v)) = s.out.take (s.pos v) ++ [s.val v] /\ B.filter (fun x => decide (x < s.val v)) = s.out.drop (s.pos v) := by
 obtain ⟨A, B, e, hA, hB⟩ := PSt.back r (s.step v) (h.step v)
 change A.filter (fun x => decide (x <= s.val v)) = (s.step v).out.take (s.pos v + 1) at hA
 change B.filter (fun x => decide (x < s.val v)) = (s.step v).out.drop (s.pos v + 1) at hB
 rw [PSt.take_step] at hA
 rw [PSt.drop_step] at hB
 exact ⟨A, B, e, hA, hB⟩
theorem PSt.val_not_less {s : PSt} (h : s.Inv) {v1 v2 : Nat} {r1 r2 : List Nat} (he : (s.run (v1 :: r1)).out = (s.run (v2 :: r2)).out) : ¬ s.val v1 < s.val v2 := by
 intro hlt
 obtain ⟨A1, B1, e1, hA1, hB1⟩ := PSt.next h v1 r1
 obtain ⟨A2, B2, e2, hA2, hB2⟩ := PSt.next h v2 r2
 have c1 : (A1 ++ B1).count (s.val v1) = (A2 ++ B2).count (s.val v1) := by rw [<- e1, <- e2, he]
 rw [List.count_append, List.count_append, <- z0q (Nat.le_of_lt hlt) A2, hA2, <- z0p hlt B2, hB2, List.count_append, List.count_singleton] at c1
 have c2 : A1.count (s.val v1) = (s.out.take (s.pos v1)).count (s.val v1) + 1 := by rw [<- z0q jH A1, hA1, List.count_append]; simp
 have c3 : B1.count (s.val v1) >= (B1.filter (fun x => decide (x < s.val v1))).count (s.val v1) := List.Sublist.count_le _ List.filter_sublist
 rw [hB1] at c3
 have d1 := z0r (s.val v1) (s.pos v1) s.out
 have d2 := z0r (s.val v1) (s.pos v2) s.out
 have hne : (s.val v2 == s.val v1) = false := by rw [beq_eq_false_iff_ne]; omega
 rw [hne] at c1
 simp at c1
 omega
theorem PSt.pos_not_less {s : PSt} (h : s.Inv) {v1 v2 : Nat} {r1 r2 : List Nat} (he : (s.run (v1 :: r1)).out = (s.run (v2 :: r2)).out) (hv : s.val v1 = s.val v2) : ¬ s.pos v1 < s.pos v2 := by
 intro hlt
 obtain ⟨A1, B1, e1, hA1, hB1⟩ := PSt.next h v1 r1
 obtain ⟨A2, B2, e2, hA2, hB2⟩ := PSt.next h v2 r2
 have hbeh := h.behind v1
 rw [<- hv] at hA2 hB2
 generalize s.val v1 = m at *
 have hp1 := s.pos_le v1
 have hp2 := s.pos_le v2
 have l1 : (A1.filter (fun x => decide (x <= m))).length = s.pos v1 + 1 := by rw [hA1, List.length_append, List.length_take]; simp; omega
 have l2 : (A2.filter (fun x => decide (x <= m))).length = s.pos v2 + 1 := by rw [hA2, List.length_append, List.length_take]; simp; omega
 have hab : A1 ++ B1 = A2 ++ B2 := by rw [<- e1, <- e2, he]
 rcases List.append_eq_append_iff.1 hab with ⟨C, hC, _⟩ | ⟨C, hC, _⟩
 ·have c1 : A1.count m = (s.out.take (s.pos v1)).count m + 1 := by rw [<- z0q (Nat.le_refl m) A1, hA1, List.count_append]; simp
  have c2 : A2.count m = (s.out.take (s.pos v2)).count m + 1 := by rw [<- z0q (Nat.le_refl m) A2, hA2, List.count_append]; simp
  have hsame : (s.out.take (s.pos v2)).count m = (s.out.take (s.pos v1)).count m := by
   rw [show s.pos v2 = s.pos v1 + (s.pos v2 - s.pos v1) by omega, List.take_add, List.count_append, z0s (l := (s.out.drop (s.pos v1)).take _) (fun x hx => by have := hbeh x (List.mem_of_mem_take hx); omega), Nat.add_zero]
  have hCm : C.count m = 0 := by rw [hC, List.count_append] at c2; omega
  have hCf : C.filter (fun x => decide (x <= m)) ≠ [] := by
   intro h0
   rw [hC, List.filter_append, h0, List.append_nil] at l2
   omega
  have hlast : (A2.filter (fun x => decide (x <= m))).getLast? = some m := by rw [hA2]; simp
  rw [hC, List.filter_append, List.getLast?_append] at hlast
  cases hg : (C.filter (fun x => decide (x <= m))).getLast? with
  | none => exact hCf (List.getLast?_eq_none_iff.1 hg)
  | some z =>
    rw [hg] at hlast
    simp at hlast
    subst hlast
    have := List.mem_of_getLast? hg
    have := (List.mem_filter.1 this).1
    rw [List.count_eq_zero] at hCm
    exact hCm this
 ·rw [hC, List.filter_append, List.length_append] at l1
  omega
theorem PSt.unique : ∀ (a b : List Nat) (s : PSt), s.Inv -> (s.run a).out = (s.run b).out -> a = b
 | [], [], _, _, _ => rfl
 | [], v :: r, s, _, he => by
   have h1 := PSt.run_len [] s
   have h2 := PSt.run_len (v :: r) s
   rw [he, h2] at h1
   simp at h1
 | v :: r, [], s, _, he => by
   have h1 := PSt.run_len [] s
   have h2 := PSt.run_len (v :: r) s
   rw [he, h1] at h2
   simp at h2
 | v1 :: r1, v2 :: r2, s, h, he => by
   have n1 := PSt.val_not_less h he
   have n2 := PSt.val_not_less h he.symm
   have hv : s.val v1 = s.val v2 := by omega
   have p1 := PSt.pos_not_less h he hv
   have p2 := PSt.pos_not_less h he.symm hv.symm
   have hp : s.pos v1 = s.pos v2 := by omega
   have q1 := s.eq v1
   have q2 := s.eq v2
   rw [hv, hp] at q1
   have e : v1 = v2 := by omega
   subst e
   rw [PSt.unique r1 r2 (s.step v1) (h.step v1) he]
end

end Go.Proofs.YtekaljeicfjkjaaGreatDoor
