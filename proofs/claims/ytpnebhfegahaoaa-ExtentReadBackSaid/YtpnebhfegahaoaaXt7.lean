/-
  The walk of ExtentReadBack.
-/
import Derived.Test.YtpnebhfegahaoaaXt5
import Derived.Test.YtpnebhfegahaoaaXtV
import Derived.Test.YtpnebhfegahaoaaKeepM
import Derived.Laws.IdiomArrays
namespace Go.Proofs.Ytpnebhfegahaoaa
open Go.RowKit

/-- append of a slice, as a step of a drawn region; the length may be 0. -/
theorem step_app {P : Program} {w0 w : World} {ops : Array Oper} {o : Oper} {a : Act} {K : Act → World → Prop} {Q : Exit → Act → World → Prop} {E : Prop} (hgd : o.guard = none) (s x : Operand) (t : TypeId)
    (ho : o.op = .call { callee := .builtin .append, args := #[s, x], argTypes := #[t, t] })
    (base : Nat) (e : TypeId) (i : TypeInfo) (z : Value) (bytes : Nat) (ht : P.underlying t = some (.slice e)) (hi : P.info? e = some i) (hz : i.zero = some z)
    (hsize : i.size = 1) (hby : i.bytes = bytes) (hzs : z.cells.size = 1)
    (v : Value) (n : Nat) (xs : List Value) (hs : a.eval s = v) (hown : w.ownsRow base e 1 v n xs)
    (ad : Addr) (m c : Nat) (news : List Value) (hx : a.eval x = .slice (some ad) m c) (hl : news.length = m * 1) (hnews : ∀ j u, news[j]? = some u → w.cell? (ad.add j) = some u) (h1 : ∀ u ∈ news, u.oneCell' = true)
    (h63 : n + m ≤ maxLen) (hbytes : (n + m) * bytes ≤ 140737488355328) (hb : Below base w0 w) (hbase : base ≤ w0.heap.size)
    (h : ∀ v' w', w'.ownsRow base e 1 v' (n + m) (xs ++ news) → Below base w0 w' → K (a.put o.dst v') w') :
    if Region.wanted o (yielded ops a.tmps) = true then Oper.wp P o a w K Q else E := by
  have hbw : base ≤ w.heap.size := by have := hb.size; omega
  have hw : Region.wanted o (yielded ops a.tmps) = true := by simp [Region.wanted, hgd]
  rw [if_pos hw]
  refine wp_append_own w s x t ho base e i z 1 bytes ht hi hz hsize hby hzs (by decide) v n xs hs hown ad m c news hx hl hnews h1 h63 hbytes hbw ?_
  intro v' w' hown' hgrow _
  exact h v' w' hown' (owns_below hown hb hbw hgrow)

theorem own8_le {w : World} {g cap n : Nat} {l : List UInt8} (h : Own8 w g cap n l) : n ≤ cap := by obtain ⟨_, _, _, h, _⟩ := h; exact h
theorem own8_lt {w : World} {g cap n : Nat} {l : List UInt8} (h : Own8 w g cap n l) : g < w.heap.size := by obtain ⟨_, h, _⟩ := h; exact h.lt
theorem own8_below {w w' : World} {g cap n : Nat} {l : List UInt8} (h : Own8 w g cap n l) (hb : Below w.heap.size w w') : Own8 w' g cap n l := by
  have hlt := own8_lt h
  obtain ⟨cur, hr, h2⟩ := h
  exact ⟨cur, (hb.block g hlt).trans hr, h2⟩
theorem add_flat' (b off j : Nat) : (⟨b, off, none⟩ : Addr).add j = ⟨b, off + j, none⟩ := by unfold Addr.add; split <;> simp_all
theorem hasF_own {w : World} {F : Nat → Prop} {base e m c : Nat} {A : Option Addr} {xs : List Value} (h : w.ownsRow base e 1 (.slice A m c) m xs) (hF : ∀ b, F b → b < base) : HasF F w A m xs := by
  rcases h.2 with ⟨e, hn⟩ | ⟨g, cap, cur, e, hb, hg, hnc, _⟩
  · subst hn
    exact ⟨by simpa using h.1, fun h0 => absurd h0 (by omega)⟩
  · obtain ⟨A', c', e', hh, _⟩ := Has.of_own h
    refine ⟨hh.1, fun h0 => ?_⟩
    obtain ⟨b, off, eb, hlt, hc⟩ := hh.2 h0
    injection e with e1 _ _
    injection e' with e2 _ _
    rw [← e2, e1] at eb
    injection eb with eb
    injection eb with eb1 eb2
    subst eb1
    refine ⟨g, off, by rw [e1]; congr 2, hlt, fun hf => by have := hF g hf; omega, hc⟩
/-- The image: the byte i is i times 7. -/
def img (L : Nat) : List UInt8 := (List.range L).map fun i => UInt8.ofNat (i * 7)
theorem img_len (L : Nat) : (img L).length = L := by simp [img]
theorem img_get {L k : Nat} (h : k < (img L).length) : (img L)[k] = UInt8.ofNat (k * 7) := by simp [img]
theorem img_val (k : Nat) : (k : Int) * 7 % 256 = ((UInt8.ofNat (k * 7)).toNat : Int) := by rw [UInt8.toNat_ofNat']; omega
/-- What stands outside the disk: the box of the numbers, the extent, the image. -/
structure Rb (w x : World) (F : Nat → Prop) (za zx g L : Nat) (a1 a2 : Int) (f c : Nat) : Prop where
  q1 : x.cell? ⟨za, 1, none⟩ = some (.int .i64 a1)
  q2 : x.cell? ⟨za, 2, none⟩ = some (.int .i64 a2)
  f0 : x.cell? ⟨zx, 0, none⟩ = some (.int .i64 f)
  f1 : x.cell? ⟨zx, 1, none⟩ = some (.int .i64 c)
  own : Own8 x g L L (img L)
  zaF : ¬ F za
  zxF : ¬ F zx
  gF : ¬ F g
  lo : ∀ b, F b → w.heap.size ≤ b
  bel : Below w.heap.size w x
theorem own8_frm {w w' : World} {F : Nat → Prop} {g c n : Nat} {l : List UInt8} (h : Own8 w g c n l) (hf : Frm F w w') (hg : ¬ F g) : Own8 w' g c n l := by
  obtain ⟨cur, hr, h2⟩ := h
  exact ⟨cur, (hf.block g hr.lt hg).trans hr, h2⟩
theorem own8_in {w : World} {g c n : Nat} {l : List UInt8} (h : Own8 w g c n l) : g < w.heap.size := by obtain ⟨_, h, _⟩ := h; exact h.lt
theorem Rb.step {w x y : World} {F G : Nat → Prop} {za zx g L : Nat} {a1 a2 : Int} {f c : Nat} (h : Rb w x F za zx g L a1 a2 f c) (hf : Frm F x y) (hG : ∀ b, G b → F b ∨ x.heap.size ≤ b) : Rb w y G za zx g L a1 a2 f c := by
  have k1 := cell_lt h.q1
  have k2 := cell_lt h.f0
  have k3 := own8_in h.own
  exact ⟨(hf.cell (p := ⟨za, 1, none⟩) k1 h.zaF).trans h.q1, (hf.cell (p := ⟨za, 2, none⟩) k1 h.zaF).trans h.q2, (hf.cell (p := ⟨zx, 0, none⟩) k2 h.zxF).trans h.f0, (hf.cell (p := ⟨zx, 1, none⟩) k2 h.zxF).trans h.f1, own8_frm h.own hf h.gF,
    fun hb => (hG _ hb).elim h.zaF fun h => by omega, fun hb => (hG _ hb).elim h.zxF fun h => by omega, fun hb => (hG _ hb).elim h.gF fun h => by omega,
    fun b hb => (hG b hb).elim (h.lo b) fun hb => by have := h.bel.size; omega, h.bel.trans (hf.below h.lo h.bel.size)⟩
theorem Rb.same {w x y : World} {F : Nat → Prop} {za zx g L : Nat} {a1 a2 : Int} {f c : Nat} (h : Rb w x F za zx g L a1 a2 f c) (hf : Frm F x y) : Rb w y F za zx g L a1 a2 f c := h.step hf fun _ h => .inl h
theorem mod_nat (a : Int) (n : Nat) (hn : 0 < n) (hn2 : n ≤ 1000000) (ha0 : -9223372036854775808 ≤ a) (ha1 : a ≤ 9223372036854775807) : ∃ r : Nat, r < n ∧ ∀ w, Calls Try.prog 35 #[.int .i64 a, .int .i64 n] w fun e w' => e = .returned (.int .i64 r) ∧ w = w' := by
  have h1 := Int.emod_nonneg a (show (n : Int) ≠ 0 by omega)
  have h2 := Int.emod_lt_of_pos a (show (0 : Int) < n by omega)
  refine ⟨(a % (n : Int)).toNat, by omega, fun w => ?_⟩
  have := mod_any a n (by omega) (by omega) ha0 ha1 w
  rw [show (((a % (n : Int)).toNat : Nat) : Int) = a % (n : Int) by omega]
  exact this

/-- append of a slice, nil or not, as a step of a drawn region. -/
theorem step_app_has {P : Program} {w0 w : World} {ops : Array Oper} {o : Oper} {a : Act} {K : Act → World → Prop} {Q : Exit → Act → World → Prop} {E : Prop} (hgd : o.guard = none) (s x : Operand) (t : TypeId)
    (ho : o.op = .call { callee := .builtin .append, args := #[s, x], argTypes := #[t, t] })
    (base : Nat) (e : TypeId) (i : TypeInfo) (z : Value) (bytes : Nat) (ht : P.underlying t = some (.slice e)) (hi : P.info? e = some i) (hz : i.zero = some z)
    (hsize : i.size = 1) (hby : i.bytes = bytes) (hzs : z.cells.size = 1)
    (v : Value) (n : Nat) (xs : List Value) (hs : a.eval s = v) (hown : w.ownsRow base e 1 v n xs)
    (A : Option Addr) (m c B : Nat) (news : List Value) (hx : a.eval x = .slice A m c) (hA : A = none → c = 0) (hhas : Has w B A m news) (h1 : ∀ u ∈ news, u.oneCell' = true)
    (h63 : n + m ≤ maxLen) (hbytes : (n + m) * bytes ≤ 140737488355328) (hb : Below base w0 w) (hbase : base ≤ w0.heap.size)
    (h : ∀ v' w', w'.ownsRow base e 1 v' (n + m) (xs ++ news) → Below base w0 w' → K (a.put o.dst v') w') :
    if Region.wanted o (yielded ops a.tmps) = true then Oper.wp P o a w K Q else E := by
  match A, hx, hA, hhas with
  | none, hx, hA, hhas =>
    have hm : m = 0 := by
      by_cases h0 : 0 < m
      · obtain ⟨b, off, e, _⟩ := hhas.2 h0
        cases e
      · omega
    subst hm
    obtain rfl := hA rfl
    have hn : news = [] := List.eq_nil_of_length_eq_zero hhas.1
    subst hn
    have hw : Region.wanted o (yielded ops a.tmps) = true := by simp [Region.wanted, hgd]
    rw [if_pos hw]
    have hrun := run_append_owned_none (P := P) (w := w) base t o.type e i 1 ht hi v n xs hown
    unfold Oper.wp execOp
    simp only [ho, resolve, invoke, builtin, Sem.run_bind, Sem.run_pure, Result.andThen_ok, List.map_toArray, List.map_cons, List.map_nil, hs, hx, hrun]
    exact h v w (by simpa using hown) hb
  | some ad, hx, hA, hhas =>
    refine step_app hgd s x t ho base e i z bytes ht hi hz hsize hby hzs v n xs hs hown ad m c news hx (by rw [hhas.1, Nat.mul_one]) ?_ h1 h63 hbytes hb hbase h
    intro j u hj
    have hjl : j < news.length := (List.getElem?_eq_some_iff.1 hj).1
    obtain ⟨b, off, e, hb, hc⟩ := hhas.2 (by have := hhas.1; omega)
    injection e with e
    subst e
    rw [add_flat', hc j hjl, ← hj, List.getElem?_eq_getElem hjl]
/-- Where the rest of a slice begins. -/
theorem rest_addr {D : World} {g c s N : Nat} {l : List UInt8} (h : Own8 D g c N l) (hs : s ≤ N) :
    ∃ ad, (if c = s then some (⟨g, 0, none⟩ : Addr) else some ⟨g, s, none⟩) = some ad ∧ Has D D.heap.size (some ad) (N - s) ((l.drop s).map bv) := by
  by_cases hcs : c = s
  · have hN : N - s = 0 := by have := own8_le h; omega
    refine ⟨_, if_pos hcs, ?_⟩
    rw [hN, List.drop_of_length_le (by rw [h.len]; omega)]
    exact ⟨rfl, fun h => absurd h (by omega)⟩
  · refine ⟨_, if_neg hcs, ?_⟩
    have := h.has.part s (N - s) (by omega)
    rw [Nat.zero_add] at this
    rw [List.map_drop]
    rwa [List.take_of_length_le (by have := h.len; simp; omega)] at this
theorem dirty_mem {n : Nat} {ca : Nat → Option (List UInt8)} {i : Nat} (h : i < (dirtyZ n ca).length) : ∃ (j : Nat) (x : List UInt8), (dirtyZ n ca)[i] = (j : Int) ∧ ca j = some x := by
  have hm := List.getElem_mem h
  unfold dirtyZ at hm
  obtain ⟨j, hj, e⟩ := List.mem_map.1 hm
  unfold dirty at hj
  obtain ⟨_, h2⟩ := List.mem_filter.1 hj
  obtain ⟨x, hx⟩ := Option.isSome_iff_exists.1 h2
  exact ⟨j, x, e.symm, hx⟩
/-- What the write leaves. -/
theorem rb_write {n f c o m : Nat} {l dm : List UInt8} (hl : l.length = 64 * n) (h1 : 1 ≤ n) (h4 : n ≤ 4096) (hf : f + c ≤ n) (hc : 1 ≤ c) (hom : o + m ≤ 64 * c) (hd : dm.length = m) :
    ∃ T, (Dsk.fresh (stOf l)).xwrite n f c o dm = (T, 0) ∧ Quiet T ∧ T.Ok n ∧ view n T = splice l (64 * f + o) dm ∧ ∀ j x, T.ca j = some x → 0 < m ∧ (64 * f + o) / 64 ≤ j ∧ j ≤ (64 * f + o + m - 1) / 64 := by
  have hx : xerr n (f : Nat) (c : Nat) (o : Nat) (dm.length : Nat) = 0 := by
    unfold xerr
    rw [if_neg (by simp [xvalid]; omega), if_neg (by omega)]
  have hq : Quiet (Dsk.fresh (stOf l)) := ⟨rfl, rfl⟩
  have hok : (Dsk.fresh (stOf l)).Ok n := Dsk.Ok.fresh h1 h4 (stOf_len hl)
  obtain ⟨r1, r2, r3, r4, r5, r6⟩ := wrc_quiet f n m o m (Dsk.fresh (stOf l)) dm (Nat.le_refl _) hd (by omega) hq hok
  refine ⟨(wrc f (chs m o m) (Dsk.fresh (stOf l)) dm).1, ?_, r2, r3, ?_, fun j x hj => ?_⟩
  · rw [xwrite_fine hx, hd]
    unfold ck
    rw [← r1]
  · rw [r4]
    have : view n (Dsk.fresh (stOf l)) = l := flat_stOf hl
    rw [this]
  · by_cases hin : j < f + o / 64 ∨ 64 * f + o + m ≤ 64 * j
    · rw [r6 j hin] at hj; cases hj
    · by_cases hm0 : m = 0
      · subst hm0; cases hj
      · omega
/-- What the read gives. -/
theorem rb_read {n f c Z : Nat} {T : Dsk} (hq : Quiet T) (hok : T.Ok n) (hf : f + c ≤ n) (hc : 1 ≤ c) (hZ : Z = 64 * c) :
    ∃ T2, T.xread n f c 0 Z = (T2, 0, ((view n T).drop (64 * f)).take Z) ∧ Quiet T2 ∧ T2.st = T.st ∧ T2.ca = T.ca := by
  have hx : xerr n (f : Nat) (c : Nat) ((0 : Nat) : Int) (Z : Nat) = 0 := by
    unfold xerr
    rw [if_neg (by simp [xvalid]; omega), if_neg (by omega)]
  obtain ⟨r1, r2, r3, r4, r5⟩ := rdc_quiet f n Z 0 Z T [] (Nat.le_refl _) (by omega) hq hok
  refine ⟨(rdc f (chs Z 0 Z) T []).1, ?_, r3, r4, r5⟩
  have := xread_fine (S := T) hx
  have e : T.xread n f c 0 Z = rdc f (ck 0 Z) T [] := this
  rw [e]
  unfold ck
  rw [show ((view n T).drop (64 * f)).take Z = (rdc f (chs Z 0 Z) T []).2.2 by rw [r2]; simp, ← r1]
theorem quiet_sync {T : Dsk} (hq : Quiet T) : T.ans true = 0 ∧ T.synced = T.tick.flush := by
  obtain ⟨e1, e2, _⟩ := hq.run
  exact ⟨e1, by simp [Dsk.synced, e1, e2]⟩
theorem eqL_same' (l : List UInt8) : eqL l l = true := by simp [eqL]
theorem want_eq {l dm : List UInt8} {B m L : Nat} (hd : dm.length = m) (h : B + m ≤ L) (hl : l.length = L) : l.take B ++ dm ++ l.drop (B + m) = splice l B dm := by
  unfold splice
  rw [hd, List.append_assoc]

set_option maxRecDepth 20000 in
set_option maxHeartbeats 6400000 in
theorem rb_good (n : Nat) (a0 a1 a2 : Int) (A : Option Addr) (len cap : Nat) (d : List UInt8) (w : World) (h1 : 1 ≤ n) (h60 : n ≤ 60) (hlen : len ≤ 1000) (hA : Arg8 w A len cap d)
    (b0 : -9223372036854775808 ≤ a0 ∧ a0 ≤ 9223372036854775807) (b1 : -9223372036854775808 ≤ a1 ∧ a1 ≤ 9223372036854775807) (b2 : -9223372036854775808 ≤ a2 ∧ a2 ≤ 9223372036854775807) :
    Calls Try.prog 4 #[.int .i64 n, .agg #[.int .i64 a0, .int .i64 a1, .int .i64 a2], .slice A len cap] w (Yes w) := by
  have hni : (n : Int) ≤ 60 := by omega
  have hn1 : (1 : Int) ≤ (n : Int) := by omega
  have g1 : decide ((n : Int) < 1) = false := by simp; omega
  have g2 : decide ((60 : Int) < (n : Int)) = false := by simp; omega
  have g3 : decide ((1000 : Int) < (len : Int)) = false := by simp; omega
  have hleni : (len : Int) ≤ 1000 := by omega
  obtain ⟨L, hL⟩ : ∃ L, L = 64 * n := ⟨_, rfl⟩
  have hnL : (n : Int) * 64 = (L : Int) := by omega
  have hLb : (L : Int) ≤ 3840 := by omega
  have HL := Lib.hid hL
  have HN := Lib.hid (And.intro h1 h60)
  have HA := Lib.hid hA
  have HB := Lib.hid (And.intro b0 (And.intro b1 b2))
  have hbx : Below w.heap.size w (w.alloc (.cells #[.int .i64 a0, .int .i64 a1, .int .i64 a2] 57)) := (Below.refl _ _).alloc (Nat.le_refl _) _
  have hl0 := heap_alloc_last w (.cells #[.int .i64 a0, .int .i64 a1, .int .i64 a2] 57)
  have HBX := Lib.hid (And.intro hbx hl0)
  have hng2 : ¬ (n < 1) := by omega
  have hng3 : ¬ (60 < n) := by omega
  have hng4 : ¬ (1000 < len) := by omega
  clear hL h1 h60 hA b0 b1 b2 hbx hl0 hlen
  go_enter Try.func4, Try.ntmps4
  go_wp2_with (at_make; refine wpList_make_bytes _ rfl _ _ rfl L (by exact rfl) (by exact rfl) (by omega) ?_; intro w2 g hg hgl hr hgr)
  have H2 : Hid (w2.heap[w.heap.size]? = some (.cells #[.int .i64 a0, .int .i64 a1, .int .i64 a2] 57 (0, 0)) ∧ Own8 w2 g L L (filled (img L) 0) ∧ w.heap.size < g ∧ Below w.heap.size w w2) := by
    obtain ⟨hbx, hl0⟩ := HBX.out
    have hsz : (w.alloc (.cells #[.int .i64 a0, .int .i64 a1, .int .i64 a2] 57)).heap.size = w.heap.size + 1 := by simp
    refine ⟨(hgr.block w.heap.size (by omega) (by simp)).trans hl0, ?_, by omega, hbx.grown hgr (by omega) fun k e => by cases e⟩
    rw [filled_zero, img_len]
    exact Own8.zeros hr
  clear hg hgl hr hgr g1 g2 g3
  go_loopw [8] (fun iv wr => ∃ k : Nat, k ≤ L ∧ iv = .int .i64 k ∧ Hid (Own8 wr g L L (filled (img L) k) ∧ Frm (fun b => b = g) w2 wr)) (fun iv _ => L - (RowKit.intOf iv).toNat)
  case atStart => exact ⟨0, Nat.zero_le _, rfl, H2.out.2.1, Frm.refl _ _⟩
  case round =>
    obtain ⟨k, hk, rfl, HR⟩ := hrel
    have hkb : (k : Int) ≤ 3840 := by omega
    by_cases hlt : k < L
    · have hd : decide ((k : Int) < (L : Int)) = true := by simpa using hlt
      have hki : (k : Int) < (L : Int) := by omega
      have c0 := HR.out.1.cell hlt
      have c1 := HR.out.1.frozen k
      go_wp2
      go_roundw
      case rel =>
        have hkl : k < (img L).length := by rw [img_len]; exact hlt
        refine ⟨k + 1, by omega, by go_num, ?_, HR.out.2.setCell (p := ⟨g, k, none⟩) (.inl rfl) _⟩
        have := HR.out.1.set_cell hlt (UInt8.ofNat (k * 7)) _ (img_val k)
        rw [← img_get hkl, filled_set _ _ hkl] at this
        exact this
      case measure => simp [RowKit.intOf]; omega
    · have hd : decide ((k : Int) < (L : Int)) = false := by simpa using hlt
      have hkL : k = L := by omega
      have HI : Hid (Own8 wr g L L (img L)) := by
        show Own8 wr g L L (img L)
        have := HR.out.1
        rw [hkL] at this
        have e : filled (img L) L = img L := by have := filled_all (img L); rwa [img_len] at this
        rwa [e] at this
      have HF := Lib.hid HR.out.2
      have hld := load_yes (some ⟨g, 0, none⟩) L L wr.heap.size n (img L) wr HI.out.has (Nat.le_refl _) HL.out HN.out.1 (by have := HN.out.2; omega)
      obtain ⟨f, hfn, hm0⟩ := mod_nat a0 n (by have := HN.out.1; omega) (by have := HN.out.2; omega) HB.out.1.1 HB.out.1.2
      clear HR hk hkL hkb
      go_wp2_with fail
      refine hld.mono ?_
      rintro e w3 ⟨a, rfl, ha, hpd, hb3⟩
      have hza : w.heap.size ≠ g := by have := H2.out.2.2.1; omega
      have hrow3 : w3.heap[w.heap.size]? = some (.cells #[.int .i64 a0, .int .i64 a1, .int .i64 a2] 57 (0, 0)) := by
        have e1 := HF.out.obj H2.out.1 hza
        exact (hb3.block _ (lt_of_some e1)).trans e1
      have p0 := cell_of_row w3 w.heap.size 0 _ _ _ hrow3
      have p1 := cell_of_row w3 w.heap.size 1 _ _ _ hrow3
      have hbx3 : Below w3.heap.size w3 (w3.alloc (.cells #[.int .i64 f, .int .i64 0] 33)) := (Below.refl _ _).alloc (Nat.le_refl _) _
      have p1' := (hbx3.cell (p := ⟨w.heap.size, 1, none⟩) (lt_of_some hrow3)).trans p1
      have hzne : w3.heap.size ≠ w.heap.size := by have := lt_of_some hrow3; omega
      simp at p0 p1 p1'
      have HW3 := Lib.hid hrow3
      have hs2 := H2.out.2.2.2.size
      have hs3 := HF.out.size
      have H3 : Hid (PD w3 (newF wr w3) a n (Dsk.fresh (stOf (img L))) ∧ Own8 w3 g L L (img L) ∧ Below w.heap.size w w3 ∧ (∀ b, newF wr w3 b → w.heap.size ≤ b) ∧ ¬ newF wr w3 w.heap.size ∧ ¬ newF wr w3 g) :=
        ⟨hpd, own8_frm (F := fun _ => False) HI.out (Frm.of_below hb3) (fun h => h), (H2.out.2.2.2.trans (HF.out.below (fun b e => by subst e; have := H2.out.2.2.1; omega) hs2)).trans (hb3.mono (by omega)), fun b hb => by have := hb.1; omega, fun hb => by have := hb.1; have := lt_of_some (HF.out.obj H2.out.1 hza); omega, fun hb => by have := hb.1; have := own8_in HI.out; omega⟩
      obtain ⟨nf, hnf⟩ : ∃ nf, nf = n - f := ⟨_, rfl⟩
      have hnfr : (n : Int) - (f : Int) = (nf : Int) := by omega
      obtain ⟨r1, hr1, hm1⟩ := mod_nat a1 nf (by omega) (by have := HN.out.2; omega) HB.out.2.1.1 HB.out.2.1.2
      obtain ⟨c, hc⟩ : ∃ c, c = 1 + r1 := ⟨_, rfl⟩
      have hcr : 1 + (r1 : Int) = (c : Int) := by omega
      obtain ⟨Z, hZ⟩ : ∃ Z, Z = c * 64 := ⟨_, rfl⟩
      have hZr : (c : Int) * 64 = (Z : Int) := by omega
      obtain ⟨Z1, hZ1⟩ : ∃ Z1, Z1 = Z + 1 := ⟨_, rfl⟩
      have hZ1r : (Z : Int) + 1 = (Z1 : Int) := by omega
      obtain ⟨o, hoZ, hm2⟩ := mod_nat a2 Z1 (by omega) (by have := HN.out.2; omega) HB.out.2.2.1 HB.out.2.2.2
      obtain ⟨zo, hzo⟩ : ∃ zo, zo = Z - o := ⟨_, rfl⟩
      have hzor : (Z : Int) - (o : Int) = (zo : Int) := by omega
      obtain ⟨m, hm⟩ : ∃ m, m = min len zo := ⟨_, rfl⟩
      have hmin := fun (W : World) (ts : Array TypeId) (t : TypeId) => min_two (P := Try.prog) W ts t (len : Int) (zo : Int) (m : Int) (by omega)
      obtain ⟨fb, hfb⟩ : ∃ fb, fb = 64 * f := ⟨_, rfl⟩
      have hfbr : (f : Int) * 64 = (fb : Int) := by omega
      obtain ⟨B, hB⟩ : ∃ B, B = fb + o := ⟨_, rfl⟩
      have hBr : (fb : Int) + (o : Int) = (B : Int) := by omega
      obtain ⟨Q, hQ⟩ : ∃ Q, Q = B + m := ⟨_, rfl⟩
      have HP2 : Hid (fb = 64 * f ∧ B = fb + o ∧ Q = B + m) := ⟨hfb, hB, hQ⟩
      have HNUM : Hid (f + c ≤ n ∧ 1 ≤ c ∧ Z = 64 * c ∧ o ≤ Z ∧ m ≤ len ∧ o + m ≤ Z) := by show _ ∧ _; omega
      have bf : (f : Int) ≤ 60 := by omega
      have bnf : (nf : Int) ≤ 60 := by omega
      have bc : (c : Int) ≤ 60 := by omega
      have br1 : (r1 : Int) ≤ 60 := by omega
      have bZ : (Z : Int) ≤ 3840 := by omega
      have bo : (o : Int) ≤ 3840 := by omega
      have hmc : (m : Int) ≤ (cap : Int) := by have := HA.out.2.1; omega
      have hb4 : Below w3.heap.size w3 (w3.alloc (.cells #[.int .i64 f, .int .i64 c] 33)) := (Below.refl _ _).alloc (Nat.le_refl _) _
      have p2' : (w3.alloc (.cells #[.int .i64 f, .int .i64 c] 33)).cell? ⟨w.heap.size, 2, none⟩ = some (.int .i64 a2) := (hb4.cell (p := ⟨w.heap.size, 2, none⟩) (lt_of_some hrow3)).trans (cell_of_row w3 w.heap.size 2 _ _ _ hrow3)
      have hx4 := heap_alloc_last w3 (.cells #[.int .i64 f, .int .i64 c] 33)
      have RB4 : Hid (PD (w3.alloc (.cells #[.int .i64 f, .int .i64 c] 33)) (newF wr w3) a n (Dsk.fresh (stOf (img L))) ∧ Rb w (w3.alloc (.cells #[.int .i64 f, .int .i64 c] 33)) (newF wr w3) w.heap.size w3.heap.size g L a1 a2 f c) := by
        obtain ⟨t1, t2, t3, t4, t5, t6⟩ := H3.out
        exact ⟨t1.below hb4, (hb4.cell (p := ⟨w.heap.size, 1, none⟩) (lt_of_some hrow3)).trans (cell_of_row w3 w.heap.size 1 _ _ _ hrow3), p2', cell_of_row _ _ 0 _ _ _ hx4, cell_of_row _ _ 1 _ _ _ hx4, own8_frm (F := fun _ => False) t2 (Frm.of_below hb4) (fun h => h), t5, fun h => Nat.lt_irrefl _ h.2, t6, t4, t3.trans (hb4.mono t3.size)⟩
      clear hx4 hb4
      clear hld hpd hb3 ha hrow3 hza hs2 hs3 hnf hc hZ hZ1 hzo hm hr1 hfn hoZ hfb hB hQ
      go_wp2_with fail
      refine (hm0 _).mono ?_
      rintro e w' ⟨rfl, rfl⟩
      go_wp2_with fail
      refine (hm1 _).mono ?_
      rintro e w' ⟨rfl, rfl⟩
      go_wp2_with fail
      refine (hm2 _).mono ?_
      rintro e w' ⟨rfl, rfl⟩
      clear p0 p1 p1' p2' hzne hbx3 hm0 hm1 hm2 H3 HW3 HI HF
      generalize w3.alloc (.cells #[.int .i64 f, .int .i64 c] 33) = w4 at *
      generalize newF wr w3 = F4 at *
      generalize w3.heap.size = zx at *
      have hAm : HasF F4 w4 A m ((d.take m).map bv) := by
        have := HasF.of_low (F := F4) (HA.out.1.below' RB4.out.2.bel (Nat.le_refl _)) RB4.out.2.bel.size RB4.out.2.lo
        exact this.pre HNUM.out.2.2.2.2.1
      have k0 := RB4.out.2.f0
      have k1 := RB4.out.2.f1
      go_wp2_with fail
      obtain ⟨T, hT, hTq, hTok, hTv, hTc⟩ := rb_write (n := n) (f := f) (c := c) (o := o) (m := m) (l := img L) (dm := d.take m) (by rw [img_len]; exact HL.out) HN.out.1 (by have := HN.out.2; omega) HNUM.out.1 HNUM.out.2.1 (by have := HNUM.out; omega) (by have := HA.out.len; have := HNUM.out.2.2.2.2.1; simp; omega)
      have hwr := xwrite_any RB4.out.1 f c o A m cap (d.take m) (by omega) (by omega) (by have := HNUM.out.2.2.2.2.1; omega) (by omega) hAm
      rw [hT] at hwr
      have HT := Lib.hid (And.intro hTq (And.intro hTok (And.intro hTv hTc)))
      clear hT hTq hTok hTv hTc hAm
      refine hwr.mono ?_
      rintro e w5 ⟨rfl, hp5, hf5⟩
      obtain ⟨F5, hp5, hG5⟩ : ∃ G : Nat → Prop, PD w5 G a n T ∧ ∀ b, G b → F4 b ∨ w4.heap.size ≤ b := ⟨_, hp5, fun b hb => hb.elim .inl fun h => .inr h.1⟩
      have R5 := Lib.hid (RB4.out.2.step hf5 hG5)
      have hlt5 := Lib.hid (fun b hb => hp5.lt b hb)
      obtain ⟨T2, hT2, hT2q, hT2s, hT2c⟩ := rb_read (f := f) (c := c) (Z := Z) HT.out.1 HT.out.2.1 HNUM.out.1 HNUM.out.2.1 HNUM.out.2.2.1
      have hrd := xread_any hp5 f c 0 Z (by omega) (by omega) (by omega)
      rw [hT2] at hrd
      have HT2 := Lib.hid (And.intro hT2q (And.intro hT2s hT2c))
      clear hwr hp5 hf5 hG5 k0 k1 hT2 hT2q hT2s hT2c
      have k0 := R5.out.f0
      have k1 := R5.out.f1
      go_wp2_with fail
      refine hrd.mono ?_
      rintro e w6 ⟨vb, rfl, ⟨Ab, mb, cb, rfl, _, hmcb, hhb⟩, hp6, hf6⟩
      have hlz : (((view n T).drop (64 * f)).take Z).length = Z := by have := view_length HT.out.2.1; have := HNUM.out; simp; omega
      obtain rfl : mb = Z := by have := (hhb (fun _ => False) (fun _ h => h.elim)).1; simp only [List.length_map] at this; omega
      have R6 := Lib.hid (R5.out.same hf6)
      have HBB := Lib.hid (hhb F5 hlt5.out)
      have H6 := Lib.hid hp6
      have HLZ := Lib.hid hlz
      clear hhb hp6 hf6 hrd k0 k1 hlz
      go_wp2_with fail
      refine (dirty_any H6.out).mono ?_
      rintro e w7 ⟨vd, rfl, hod, hb7⟩
      obtain ⟨Ad, cd, rfl, hhd, _⟩ := Has.of_own hod
      have R7 := Lib.hid (R6.out.same (Frm.of_below hb7))
      have H7 := Lib.hid (H6.out.below hb7)
      have HBB7 := Lib.hid (HBB.out.keep (Frm.of_below (F := F5) hb7) (G := F5) fun _ h => .inl h)
      have HHD := Lib.hid (hasF_own (F := F5) hod (fun b hb => H6.out.lt b hb))
      obtain ⟨kd, hkd⟩ : ∃ kd, kd = (dirtyZ n T2.ca).length := ⟨_, rfl⟩
      rw [← hkd] at HHD
      have HKD := Lib.hid hkd
      rw [← hkd]
      clear hod hhd hb7 hkd
      obtain ⟨hs1, hs2⟩ := quiet_sync HT2.out.1
      have hsy := sync_any H7.out
      rw [hs1, hs2] at hsy
      clear hs1 hs2
      go_wp2_with fail
      refine hsy.mono ?_
      rintro e w8 ⟨rfl, hp8, hf8⟩
      have R8 := Lib.hid (R7.out.same hf8)
      have H8 := Lib.hid hp8
      have hBL : Q ≤ L := by have := HP2.out; have := HNUM.out; have := HL.out; omega
      have hQr : (B : Int) + (m : Int) = (Q : Int) := by have := HP2.out.2.2; omega
      have hQw : IntKind.i64.wrap ((B : Int) + (m : Int)) = (Q : Int) := by rw [hQr, IntKind.wrap_i64]; omega
      have hQw2 : IntKind.i64.wrap (Q : Int) = (Q : Int) := by rw [IntKind.wrap_i64]; omega
      have hBLi : (B : Int) ≤ (L : Int) := by omega
      have hQLi : (Q : Int) ≤ (L : Int) := by omega
      have hL0 : ¬ L = 0 := by have := HL.out; have := HN.out.1; omega
      have k0 := R8.out.f0
      have R8d := Lib.hid (R8.out.same (Frm.of_below ((Below.refl w8.heap.size w8).drew)))
      have H8d := Lib.hid (H8.out.below ((Below.refl w8.heap.size w8).drew))
      have HHD8 := Lib.hid ((HHD.out.keep hf8 (G := F5) fun _ h => .inl h).keep (Frm.of_below (F := F5) ((Below.refl w8.heap.size w8).drew)) (G := F5) fun _ h => .inl h)
      have HBB8 := Lib.hid ((HBB7.out.keep hf8 (G := F5) fun _ h => .inl h).keep (Frm.of_below (F := F5) ((Below.refl w8.heap.size w8).drew)) (G := F5) fun _ h => .inl h)
      have hdm : Hid (((d.take m).map bv).length = m) := by show _ = _; have := HA.out.len; have := HNUM.out.2.2.2.2.1; simp; omega
      have hbI : Has w8.drew w8.drew.heap.size (some ⟨g, 0, none⟩) B (((img L).take B).map bv) := by
        have := R8d.out.own.has.take B (by omega)
        rwa [← List.map_take] at this
      have hod := ownBytes_any (some ⟨g, 0, none⟩) B L w8.drew.heap.size ((img L).take B) w8.drew hbI (fun e => by cases e) (by omega) (Nat.le_refl _)
      obtain ⟨ad2, had2, hsuf⟩ := rest_addr R8d.out.own hBL
      have HSUF := Lib.hid hsuf
      obtain ⟨i5, hi5, hz0, hz1, hz2⟩ := info_parts infoU8
      have hAn := Lib.hid HA.out.2.2.2
      have HDM : Hid (Has w8.drew w8.drew.heap.size A m ((d.take m).map bv)) := by
        have h1 := HA.out.1.below' R8d.out.bel (Nat.le_refl _)
        have := (h1.take m HNUM.out.2.2.2.2.1).more R8d.out.bel.size
        rwa [← List.map_take] at this
      have hb63 : Hid (B + m ≤ maxLen ∧ B + m + (L - Q) ≤ maxLen) := by show _ ∧ _; unfold maxLen; omega
      have hby1 : Hid ((B + m) * 1 ≤ 140737488355328 ∧ (B + m + (L - Q)) * 1 ≤ 140737488355328) := by show _ ∧ _; omega
      clear hsy hp8 hf8 hbI hsuf
      go_wp2_with fail
      go_region_held3 (fun _ => True) (first | trivial | go_keep)
        (first
          | (go_at_call 14
             refine hod.mono ?_
             rintro e w9 ⟨⟨v9, rfl, hown9⟩, hb9⟩)
          | (refine step_app_has rfl _ _ 34 (by exact rfl) w8.drew.heap.size 5 i5 (.int .u8 0) 1 tyBs hi5 hz0 hz1 hz2 rfl v9 B _ (by exact rfl) hown9 A m cap _ _ (by exact rfl) hAn.out (HDM.out.below hb9) (one_bytes _) hb63.out.1 hby1.out.1 hb9 (Nat.le_refl _) ?_
             intro va wa howna hba)
          | (refine step_app_has rfl _ _ 34 (by exact rfl) w8.drew.heap.size 5 i5 (.int .u8 0) 1 tyBs hi5 hz0 hz1 hz2 rfl va (B + m) _ (by exact rfl) howna (some ad2) (L - Q) (L - Q) _ _ (by exact rfl) (fun e => by cases e) (HSUF.out.below hba) (one_bytes _) hb63.out.2 hby1.out.2 hba (Nat.le_refl _) ?_
             intro vc wc hownc hbc))
      have hwl : Hid (splice (img L) B (d.take m) = (view n T)) := by show _ = _; rw [HT.out.2.2.1]; have := HP2.out; congr 1; omega
      have hown : wc.ownsRow w8.drew.heap.size 5 1 vc L ((view n T).map bv) := by
        have e1 : B + m + (L - Q) = L := by have := HP2.out.2.2; omega
        have e2 : ((img L).take B).map bv ++ (d.take m).map bv ++ ((img L).drop Q).map bv = (view n T).map bv := by
          rw [← List.map_append, ← List.map_append, ← hwl.out, ← want_eq (by simpa using hdm.out) (by have := HP2.out.2.2; omega) (img_len L), HP2.out.2.2]
        rw [e1, e2] at hownc
        exact hownc
      obtain ⟨gw, capw, rfl, hgw, hogw⟩ := Own8.of hown (by omega)
      have Rc := Lib.hid (R8d.out.same (Frm.of_below hbc))
      have Hc := Lib.hid (H8d.out.below hbc)
      have HHc := Lib.hid (HHD8.out.keep (Frm.of_below (F := F5) hbc) (G := F5) fun _ h => .inl h)
      have HBc := Lib.hid (HBB8.out.keep (Frm.of_below (F := F5) hbc) (G := F5) fun _ h => .inl h)
      have HW := Lib.hid hogw
      clear hownc hown hogw hgw hbc hod had2 howna hba hown9 hb9 hQw hQw2 k0
      have k0 := Rc.out.f0
      go_wp2_with fail
      go_loop [19] (fun iv => ∃ i : Nat, i ≤ kd ∧ iv = .int .i64 i) (fun iv => kd - (RowKit.intOf iv).toNat)
      case atStart => exact ⟨0, Nat.zero_le _, rfl⟩
      case round =>
        obtain ⟨i, hik, rfl⟩ := hrel
        have hkdn : kd ≤ 60 := by rw [HKD.out]; have := dirtyZ_len n T2.ca; have := HN.out.2; omega
        have hib : (i : Int) ≤ 60 := by omega
        by_cases hik2 : i < kd
        · have hd : decide ((i : Int) < (kd : Int)) = true := by simpa using hik2
          have hiki : (i : Int) < (kd : Int) := by omega
          obtain ⟨bd, od, rfl, _, _, hcd⟩ := HHc.out.2 (by omega)
          have hil : i < (dirtyZ n T2.ca).length := by rw [← HKD.out]; exact hik2
          obtain ⟨j, x, hj, hjc⟩ := dirty_mem hil
          have hcell := hcd i (by simpa using hil)
          rw [List.getElem_map, hj] at hcell
          rw [HT2.out.2.2] at hjc
          obtain ⟨hm0, hj0, hj1⟩ := HT.out.2.2.2 j x hjc
          obtain ⟨q0, hq0⟩ : ∃ q0, q0 = B / 64 := ⟨_, rfl⟩
          obtain ⟨q1, hq1⟩ : ∃ q1, q1 = (Q - 1) / 64 := ⟨_, rfl⟩
          have hP := HP2.out
          have hjq0 : ¬ j < q0 := by omega
          have hjq1 : ¬ q1 < j := by omega
          have hme : ((m : Int) == 0) = false := by simp; omega
          have t0 : Int.tdiv (B : Int) 64 = (q0 : Int) := by rw [Int.tdiv_eq_ediv_of_nonneg (by omega)]; omega
          have t1 : Int.tdiv ((Q : Int) - 1) 64 = (q1 : Int) := by rw [Int.tdiv_eq_ediv_of_nonneg (by omega)]; omega
          have bq0 : (q0 : Int) ≤ 100 := by omega
          have bq1 : (q1 : Int) ≤ 100 := by omega
          have hQ1 : (1 : Int) ≤ (Q : Int) := by omega
          clear hP hq0 hq1 hj0 hj1 hcd hil hj hjc hm0 hdm
          go_wp2
          go_round
          case rel => exact ⟨i + 1, by omega, by go_num⟩
          case measure => simp [RowKit.intOf]; omega
        · have hd : decide ((i : Int) < (kd : Int)) = false := by simpa using hik2
          have hv2 : view n T2 = view n T := by unfold view Dsk.sec; rw [HT2.out.2.1, HT2.out.2.2]
          have him := image_L Hc.out HL.out
          have hst : flat n T2.tick.flush.st = view n T := by rw [← hv2]; rfl
          rw [hst] at him
          have HV2 := Lib.hid hv2
          clear hv2 hst
          go_wp2_with fail
          refine him.mono ?_
          rintro e wd ⟨gi, rfl, _, hrow, hbd⟩
          have hvl : (view n T).length = L := by rw [view_length HT.out.2.1]; exact HL.out.symm
          have hHi := has_of_row hrow hvl
          have hHw : Has wd wd.heap.size (some ⟨gw, 0, none⟩) L ((view n T).map bv) := (HW.out.has.below hbd).more hbd.size
          have hby := bytes_any (some ⟨gi, 0, none⟩) (some ⟨gw, 0, none⟩) L L L capw wd.heap.size _ _ wd hHi hHw
          have hpt : Has wd wd.heap.size (some ⟨gw, fb, none⟩) mb ((((view n T).drop (64 * f)).take mb).map bv) := by
            have := hHw.part fb mb (by have := HP2.out; have := HNUM.out; have := HL.out; omega)
            rw [Nat.zero_add] at this
            rw [List.map_take, List.map_drop, ← HP2.out.1]
            exact this
          have hHb := ((HBc.out.keep (Frm.of_below (F := F5) hbd) (G := fun _ => False) (fun _ h => h.elim))).has
          have hby2 := bytes_any Ab (some ⟨gw, fb, none⟩) mb cb mb (capw - fb) wd.heap.size _ _ wd hHb hpt
          rw [eqL_same'] at hby hby2
          have hcw : ¬ capw = fb := by have := own8_le HW.out; have := HP2.out; have := HNUM.out; have := HL.out; omega
          obtain ⟨E, hE⟩ : ∃ E, E = fb + mb := ⟨_, rfl⟩
          have hEr : (fb : Int) + (mb : Int) = (E : Int) := by omega
          have hEw : (E : Int) ≤ (capw : Int) := by have := own8_le HW.out; have := HP2.out; have := HNUM.out; have := HL.out; omega
          have hEf : (fb : Int) ≤ (E : Int) := by omega
          have hEZ : E - fb = mb := by omega
          have k1 := (hbd.cell (p := ⟨zx, 0, none⟩) (cell_lt k0)).trans k0
          have HB := Lib.hid (Rc.out.bel.trans (hbd.mono Rc.out.bel.size))
          clear hHi hHw hpt hHb hrow hbd him hvl hE
          go_wp2_with fail
          refine hby.mono ?_
          rintro e w' ⟨rfl, rfl⟩
          go_wp2_with fail
          refine hby2.mono ?_
          rintro e w' ⟨rfl, rfl⟩
          go_wp2_with fail
          refine (awake6_any _).mono ?_
          rintro e we hy
          have HY := Lib.hid (yes_of HB.out hy)
          obtain ⟨rfl, _⟩ := hy
          go_wp2_with fail
          go_ret
          exact HY.out

open Go.ChangeShapes Go.WideShapes
theorem list3 {α : Type} (l : List α) (h : l.length = 3) : ∃ a b c, l = [a, b, c] := by
  match l, h with
  | [a, b, c], _ => exact ⟨a, b, c, rfl⟩
set_option maxRecDepth 100000 in
theorem open_arr3 {H : Type} {enc : TypeId × Value → H} {W : World} {base : Nat} {held : Bool} {v : Value} {d : DataW H} {p : List MemPlace} (hval : Value.okWide Try.prog W .any base 57 v) (h : DataW.Trod enc Try.prog W 0 (fun _ => true) held 57 v d p) :
    ∃ z0 z1 z2 : Int, v = .agg #[.int .i64 z0, .int .i64 z1, .int .i64 z2] ∧ (-9223372036854775808 ≤ z0 ∧ z0 ≤ 9223372036854775807) ∧ (-9223372036854775808 ≤ z1 ∧ z1 ≤ 9223372036854775807) ∧ (-9223372036854775808 ≤ z2 ∧ z2 ≤ 9223372036854775807) := by
  obtain ⟨cs, rfl, hsz, _⟩ : ∃ cs, v = .agg cs ∧ cs.size = Try.prog.cellsOf 57 ∧ Row.okWide Try.prog W .any base 57 cs := by
    unfold Value.okWide at hval
    rw [Try.underlying57] at hval
    exact hval
  have hc3 : Try.prog.cellsOf 57 = 3 := by kernel_rfl
  have hc1 : Try.prog.cellsOf 3 = 1 := by kernel_rfl
  rw [hc3] at hsz
  obtain ⟨l⟩ := cs
  obtain ⟨c0, c1, c2, rfl⟩ := list3 l hsz
  obtain ⟨fuel, hf⟩ := h
  obtain ⟨y0, y1, y2, m, hx, hy0, hy1, hy2⟩ := trod_array3 Try.underlying57 hc1 hf
  obtain ⟨x0, e0, _, w0⟩ := DataW.trod_int tyInt hy0
  obtain ⟨x1, e1, _, w1⟩ := DataW.trod_int tyInt hy1
  obtain ⟨x2, e2, _, w2⟩ := DataW.trod_int tyInt hy2
  simp at e0 e1 e2
  subst e0 e1 e2
  exact ⟨x0, x1, x2, rfl, bounds_i64 w0, bounds_i64 w1, bounds_i64 w2⟩

set_option maxRecDepth 20000 in
set_option maxHeartbeats 3200000 in
theorem rb_awake (n : Int) (a0 a1 a2 : Int) (A : Option Addr) (len cap : Nat) (w : World) (h : n < 1 ∨ 60 < n ∨ 1000 < (len : Int)) :
    Calls Try.prog 4 #[.int .i64 n, .agg #[.int .i64 a0, .int .i64 a1, .int .i64 a2], .slice A len cap] w (Yes w) := by
  have go : ∀ w1, Below w.heap.size w w1 → Calls Try.prog 8 #[] w1 (fun e w' => e = .returned (.bool true) ∧ Below w.heap.size w w') := fun w1 hb => (awake6_any w1).mono fun e w' h => ⟨h.1, hb.trans (h.2.mono hb.size)⟩
  have hbx : Below w.heap.size w (w.alloc (.cells #[.int .i64 a0, .int .i64 a1, .int .i64 a2] 57)) := (Below.refl _ _).alloc (Nat.le_refl _) _
  by_cases h1 : n < 1
  · have g1 : decide (n < 1) = true := by simpa using h1
    clear h
    go_enter Try.func4, Try.ntmps4
    go_wp2_with (go_at_call 8; refine (go _ hbx).mono ?_; rintro e w2 ⟨rfl, hb2⟩)
    go_ret
    exact ⟨rfl, hb2⟩
  · have g1 : decide (n < 1) = false := by simpa using h1
    by_cases h2 : 60 < n
    · have g2 : decide (60 < n) = true := by simpa using h2
      clear h
      go_enter Try.func4, Try.ntmps4
      go_wp2_with (go_at_call 8; refine (go _ hbx).mono ?_; rintro e w2 ⟨rfl, hb2⟩)
      go_ret
      exact ⟨rfl, hb2⟩
    · have g2 : decide (60 < n) = false := by simpa using h2
      have h3 : 1000 < len := by omega
      have g3 : decide ((1000 : Int) < (len : Int)) = true := by simp; omega
      clear h
      go_enter Try.func4, Try.ntmps4
      go_wp2_with (go_at_call 8; refine (go _ hbx).mono ?_; rintro e w2 ⟨rfl, hb2⟩)
      go_ret
      exact ⟨rfl, hb2⟩
theorem walkRB (n : Int) (a0 a1 a2 : Int) (A : Option Addr) (len cap : Nat) (w : World) (_ : (Lit.int .i64 n).wf = true)
    (hb : (-9223372036854775808 ≤ a0 ∧ a0 ≤ 9223372036854775807) ∧ (-9223372036854775808 ≤ a1 ∧ a1 ≤ 9223372036854775807) ∧ (-9223372036854775808 ≤ a2 ∧ a2 ≤ 9223372036854775807)) (h8 : ∃ l, Arg8 w A len cap l) :
    Calls Try.prog 4 #[.int .i64 n, .agg #[.int .i64 a0, .int .i64 a1, .int .i64 a2], .slice A len cap] w (Yes w) := by
  obtain ⟨l, hl⟩ := h8
  by_cases h : n < 1 ∨ 60 < n ∨ 1000 < (len : Int)
  · exact rb_awake n a0 a1 a2 A len cap w h
  · obtain ⟨n', rfl⟩ : ∃ k : Nat, n = k := ⟨n.toNat, by omega⟩
    exact rb_good n' a0 a1 a2 A len cap l w (by omega) (by omega) (by omega) hl hb.1 hb.2.1 hb.2.2

end Go.Proofs.Ytpnebhfegahaoaa
