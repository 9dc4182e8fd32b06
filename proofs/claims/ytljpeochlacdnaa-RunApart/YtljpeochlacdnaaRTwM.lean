import Derived.Test.YtljpeochlacdnaaRFit
import Derived.Test.YtljpeochlacdnaaRFin
import Derived.Test.YtljpeochlacdnaaRNw2
import Derived.Deep.DeepAppendWide
import Derived.ArgAppend
import Derived.Test.YtljpeochlacdnaaRFrm
import Derived.Test.YtljpeochlacdnaaRDoe
/- The laws' sameChange: two changes that are alike. -/
namespace Go.Proofs.Ytljpeochlacdnaa
namespace Rn
open Go.RowKit Gr

theorem sameChange_any {T U : Nat → Prop} {w : World} {v u : Value} {c : Chg} (hv : ChgAt T w v c) (hu : ChgAt U w u c) :
    Calls Try.prog 13 #[v, u] w fun e w' => e = .returned (.bool true) ∧ Keep (fun _ => False) w w' := by
  obtain ⟨d, s, r, rfl, ld, ls, lr⟩ := hv
  obtain ⟨d', s', r', rfl, ld', ls', lr'⟩ := hu
  have k1 := Keep.alloc (fun _ => False) w (.cells #[.slice d.1 d.2.1 d.2.2, .slice s.1 s.2.1 s.2.2, .slice r.1 r.2.1 r.2.2, .int .i64 c.stt] 32)
  have b1 := heap_alloc_new w (.cells #[.slice d.1 d.2.1 d.2.2, .slice s.1 s.2.1 s.2.2, .slice r.1 r.2.1 r.2.2, .int .i64 c.stt] 32)
  have z1 : (w.alloc (.cells #[.slice d.1 d.2.1 d.2.2, .slice s.1 s.2.1 s.2.2, .slice r.1 r.2.1 r.2.2, .int .i64 c.stt] 32)).heap.size = w.heap.size + 1 := by simp
  have k2 := Keep.alloc (fun _ => False) (w.alloc (.cells #[.slice d.1 d.2.1 d.2.2, .slice s.1 s.2.1 s.2.2, .slice r.1 r.2.1 r.2.2, .int .i64 c.stt] 32)) (.cells #[.slice d'.1 d'.2.1 d'.2.2, .slice s'.1 s'.2.1 s'.2.2, .slice r'.1 r'.2.1 r'.2.2, .int .i64 c.stt] 32)
  have b2 := heap_alloc_new (w.alloc (.cells #[.slice d.1 d.2.1 d.2.2, .slice s.1 s.2.1 s.2.2, .slice r.1 r.2.1 r.2.2, .int .i64 c.stt] 32)) (.cells #[.slice d'.1 d'.2.1 d'.2.2, .slice s'.1 s'.2.1 s'.2.2, .slice r'.1 r'.2.1 r'.2.2, .int .i64 c.stt] 32)
  rw [z1] at b2
  have HA := hide (k2.blk b1 (fun f => f))
  have HB := hide b2
  have K2 := hide (k1.more k2)
  have SD := hide (fun (W : World) (k : Keep (fun _ => False) w W) => sameInts_any d d' _ W (ld.keep k fun _ f => f.elim).1 (ld'.keep k fun _ f => f.elim).1)
  have SS := hide (fun (W : World) (k : Keep (fun _ => False) w W) => sameInts_any s s' _ W (ls.keep k fun _ f => f.elim).1 (ls'.keep k fun _ f => f.elim).1)
  have SR := hide (fun (W : World) (k : Keep (fun _ => False) w W) => sameInts_any r r' _ W (lr.keep k fun _ f => f.elim).1 (lr'.keep k fun _ f => f.elim).1)
  clear ld ls lr ld' ls' lr' k1 k2 b1 b2
  go_enter Try.func13, Try.ntmps13
  go_upto_region 1 with fail
  try simp only [z1]
  clear z1
  generalize (w.alloc (.cells #[.slice d.1 d.2.1 d.2.2, .slice s.1 s.2.1 s.2.2, .slice r.1 r.2.1 r.2.2, .int .i64 c.stt] 32)).alloc (.cells #[.slice d'.1 d'.2.1 d'.2.2, .slice s'.1 s'.2.1 s'.2.2, .slice r'.1 r'.2.1 r'.2.2, .int .i64 c.stt] 32) = w2 at *
  have a0 := cell_blk HA.out 0 (v := .slice d.1 d.2.1 d.2.2) rfl
  have e0 := cell_blk HB.out 0 (v := .slice d'.1 d'.2.1 d'.2.2) rfl
  go_wp2_with fail
  go_at_call 33
  refine (SD.out w2 K2.out).mono ?_
  rintro e w3 ⟨rfl, k3⟩
  have K3 := hide (K2.out.more k3)
  have HA3 := hide (k3.blk HA.out (fun f => f))
  have HB3 := hide (k3.blk HB.out (fun f => f))
  have a1 := cell_blk HA3.out 1 (v := .slice s.1 s.2.1 s.2.2) rfl
  have e1 := cell_blk HB3.out 1 (v := .slice s'.1 s'.2.1 s'.2.2) rfl
  clear k3 a0 e0 HA HB K2 SD
  go_wp2_with fail
  go_at_call 33
  refine (SS.out w3 K3.out).mono ?_
  rintro e w4 ⟨rfl, k4⟩
  have K4 := hide (K3.out.more k4)
  have HA4 := hide (k4.blk HA3.out (fun f => f))
  have HB4 := hide (k4.blk HB3.out (fun f => f))
  have a2 := cell_blk HA4.out 2 (v := .slice r.1 r.2.1 r.2.2) rfl
  have e2 := cell_blk HB4.out 2 (v := .slice r'.1 r'.2.1 r'.2.2) rfl
  clear k4 a1 e1 HA3 HB3 K3 SS
  go_wp2_with fail
  go_at_call 33
  refine (SR.out w4 K4.out).mono ?_
  rintro e w5 ⟨rfl, k5⟩
  have K5 := hide (K4.out.more k5)
  have a3 := cell_blk (k5.blk HA4.out (fun f => f)) 3 (v := .int .i64 c.stt) rfl
  have e3 := cell_blk (k5.blk HB4.out (fun f => f)) 3 (v := .int .i64 c.stt) rfl
  clear k5 a2 e2 HA4 HB4 K4 SR
  go_wp2_with fail
  go_ret
  exact ⟨rfl, K5.out⟩
end Rn
end Go.Proofs.Ytljpeochlacdnaa

/- RunApart: a row of changes of the call's own. -/
namespace Go.Proofs.Ytljpeochlacdnaa
namespace Rn
open Go.RowKit Gr

/-- a change's lists, and its status -/
structure Cx where
  d : Option Addr × Nat × Nat
  s : Option Addr × Nat × Nat
  r : Option Addr × Nat × Nat
  stt : Int
def Cx.row (x : Cx) : List Value := [.slice x.d.1 x.d.2.1 x.d.2.2, .slice x.s.1 x.s.2.1 x.s.2.2, .slice x.r.1 x.r.2.1 x.r.2.2, .int .i64 x.stt]
def flatC (l : List Cx) : List Value := (l.map Cx.row).flatten
theorem flatC_snoc (l : List Cx) (x : Cx) : flatC (l ++ [x]) = flatC l ++ x.row := by simp [flatC]
theorem flatC_get (l : List Cx) (i j : Nat) (x : Cx) (u : Value) (hq : l[i]? = some x) (hu : x.row[j]? = some u) : (flatC l)[i * 4 + j]? = some u := by
  induction l generalizing i with
  | nil => simp at hq
  | cons p l ih =>
    have hl : ∀ x : Cx, x.row.length = 4 := fun q => rfl
    have e : flatC (p :: l) = p.row ++ flatC l := by simp [flatC]
    have hj : j < 4 := by rw [← hl x]; exact (List.getElem?_eq_some_iff.1 hu).1
    rw [e]
    cases i with
    | zero =>
      simp only [List.getElem?_cons_zero, Option.some.injEq] at hq
      subst hq
      rw [Nat.zero_mul, Nat.zero_add, List.getElem?_append_left (by rw [hl]; omega)]
      exact hu
    | succ i =>
      simp only [List.getElem?_cons_succ] at hq
      rw [List.getElem?_append_right (by rw [hl]; omega), hl, show (i + 1) * 4 + j - 4 = i * 4 + j by omega]
      exact ih i hq
theorem info_chg3 : (Try.prog.info? 32).map (fun i => (i.zero, i.size, i.bytes)) = some (some (.agg #[.slice none 0 0, .slice none 0 0, .slice none 0 0, .int .i64 0]), 4, 80) := by kernel_rfl
/-- append to a row of the call's own, up to what growslice bears -/
theorem wpList_append_wide {P : Program} {w : World} {ops : Array Oper} {rest : List Oper} {o : Oper} {a : Act} {Q : Exit → Act → World → Prop} (hgd : o.guard = none) (s x : Operand) (t : TypeId)
    (ho : o.op = .call { callee := .builtin .append, args := #[s, x], argTypes := #[t, t] })
    (base : Nat) (e : TypeId) (i : TypeInfo) (z : Value) (size bytes : Nat) (ht : P.underlying t = some (.slice e)) (hi : P.info? e = some i) (hz : i.zero = some z)
    (hsize : i.size = size) (hby : i.bytes = bytes) (hzs : z.cells.size = size) (hsz : 0 < size)
    (v : Value) (n : Nat) (xs : List Value) (hs : a.eval s = v) (hown : w.ownsRow base e size v n xs)
    (ad : Addr) (m c : Nat) (news : List Value) (hx : a.eval x = .slice (some ad) m c) (hl : news.length = m * size) (hnews : ∀ j u, news[j]? = some u → w.cell? (ad.add j) = some u) (h1 : ∀ u ∈ news, u.oneCell' = true)
    (h63 : n + m ≤ maxLen) (hbytes : ((n + m) + (n + m) / 4 + 192) * bytes ≤ 281474976710656) (hbase : base ≤ w.heap.size)
    (h : ∀ v' w', w'.ownsRow base e size v' (n + m) (xs ++ news) → w.grownBy w' v.ownBlock → NewBlk w v v' → wpList P ops Q rest (a.put o.dst v') w') : wpList P ops Q (o :: rest) a w := by
  rcases hown.2 with ⟨rfl, rfl⟩ | ⟨g, cap, cur, rfl, hbg, hg, hnc, hcm, hcs, htake⟩
  · have hxs : xs = [] := List.eq_nil_of_length_eq_zero (by simpa using hown.1)
    subst hxs
    refine wpList_append_own_wide w hgd s x t ho w.heap.size e i z size bytes ht hi hz hsize hby hzs hsz _ 0 [] hs (World.ownsRow_nil w _ e size) ad m c news hx hl hnews h1 h63 hbytes (Nat.le_refl _) ?_
    intro v' w' h2 h3 h4
    exact h v' w' (ownsRow_base h2 hbase) h3 (.inr fun k hk => (h2.lt k hk).1)
  · by_cases hroom : n + m ≤ cap
    · refine wpList_append_fits w hgd s x t ho base e i size ht hi hsize g n cap xs hs hown ad m c news hx hl hnews h1 hroom ?_
      intro w' h2 h3
      exact h _ w' h2 h3 (.inl rfl)
    · have hlt : cap < n + m := by omega
      have h63' : ((n + m : Nat) : Int) ≤ 9223372036854775807 := by simp only [maxLen] at h63; omega
      subst hsize
      subst hby
      have hr := run_append_grow (P := P) w t o.type e i z ht hi hz ⟨g, 0, none⟩ n cap xs hown.1 (hown.cells rfl) ad m c news hl hnews hlt h63' (growslice_fits_wide hlt hbytes)
      have hlen : (xs ++ news).length = (n + m) * i.size := by rw [List.length_append, hown.1, hl, Nat.add_mul]
      have hge := grownCap_ge w (n + m) cap e
      have hcm2 : grownCap w (n + m) cap e ≤ maxLen := grownCap_le_maxLen w (n + m) cap e h63
      have hrow : (w.drew.alloc (.cells (xs.toArray ++ news.toArray ++ Builtin.zeroCells z.cells (grownCap w (n + m) cap e - (n + m))) e)).ownsRow w.heap.size e i.size (.slice (some ⟨w.heap.size, 0, none⟩) (n + m) (grownCap w (n + m) cap e)) (n + m) (xs ++ news) := by
        refine ⟨hlen, .inr ⟨w.heap.size, _, _, rfl, Nat.le_refl _, heap_alloc_new w.drew _, hge, hcm2, ?_, ?_⟩⟩
        · simp only [Array.size_append, List.size_toArray, size_zeroCells, hzs, hown.1, hl, ← Nat.add_mul]
          congr 1
          omega
        · simp only [Array.toList_append, List.append_assoc]
          rw [← List.append_assoc, ← hlen]
          exact List.take_left
      have hgr : w.grownBy (w.drew.alloc (.cells (xs.toArray ++ news.toArray ++ Builtin.zeroCells z.cells (grownCap w (n + m) cap e - (n + m))) e)) (Value.slice (some ⟨g, 0, none⟩) n cap).ownBlock := ⟨rfl, rfl, rfl, by simp, fun k hk _ => heap_alloc_old w.drew _ hk⟩
      generalize (w.drew.alloc (.cells (xs.toArray ++ news.toArray ++ Builtin.zeroCells z.cells (grownCap w (n + m) cap e - (n + m))) e)) = w' at *
      generalize (Value.slice (some ⟨w.heap.size, 0, none⟩) (n + m) (grownCap w (n + m) cap e)) = v' at *
      have hnx := h v' w' (ownsRow_base hrow hbase) hgr (.inr fun k hk => (hrow.lt k hk).1)
      refine wpList_plain hgd fun K hK' => ?_
      unfold Oper.wp
      simp [execOp, ho, resolve, invoke, builtin, hs, hx, hr, Result.andThen]
      exact hK' _ _ hnx
theorem chg_fitsA {m A : Nat} (h : m * 56 ≤ A) (hA : 1000000 ≤ A) : (m + m / 4 + 192) * 80 ≤ 2 * A := by omega
theorem chg_fits {n : Nat} (h : (n + 1) * 56 ≤ 140737488355328) : ((n + 1) + (n + 1) / 4 + 192) * 80 ≤ 281474976710656 := chg_fitsA h (by decide)
theorem chg_most {n : Nat} (h : (n + 1) * 56 ≤ 140737488355328) : n + 1 ≤ maxLen := by unfold maxLen; omega
/-- a change more -/
theorem wp_append_chg {w : World} {ops : Array Oper} {rest : List Oper} {o : Oper} {a : Act} {Q : Exit → Act → World → Prop} (hgd : o.guard = none) (s x : Operand)
    (ho : o.op = .call { callee := .builtin .append, args := #[s, x], argTypes := #[55, 55] })
    (base : Nat) (v : Value) (l : List Cx) (hs : a.eval s = v) (hown : w.ownsRow base 32 4 v l.length (flatC l)) (B : Nat) (c : Cx) (hx : a.eval x = .slice (some ⟨B, 0, none⟩) 1 1) (hq : w.heap[B]? = some (.cells c.row.toArray 32 (0, 0))) (hn : (l.length + 1) * 56 ≤ 140737488355328) (hbase : base ≤ w.heap.size)
    (h : ∀ v' w', w'.ownsRow base 32 4 v' (l ++ [c]).length (flatC (l ++ [c])) → Keep (fun k => v.ownBlock = some k) w w' → NewBlk w v v' → wpList Try.prog ops Q rest (a.put o.dst v') w') : wpList Try.prog ops Q (o :: rest) a w := by
  obtain ⟨i0, hi, hz0, hz1, hz2⟩ := info_parts info_chg3
  have hb80 := chg_fits hn
  have hm := chg_most hn
  refine wpList_append_wide hgd s x 55 ho base 32 i0 _ 4 80 Try.underlying55 hi hz0 hz1 hz2 rfl (by decide) v l.length _ hs hown ⟨B, 0, none⟩ 1 1 c.row hx rfl (fun j u hu => ?_) (fun u hu => ?_) hm hb80 hbase ?_
  · rw [Addr.add_mid, Nat.zero_add]
    exact cell_blk hq j (by simpa using hu)
  · simp [Cx.row] at hu
    rcases hu with rfl | rfl | rfl | rfl <;> rfl
  · intro v' w' h1 h2 h3
    exact h v' w' (by rw [flatC_snoc, List.length_append]; exact h1) (Keep.grown h2 fun k e => e) h3
end Rn
end Go.Proofs.Ytljpeochlacdnaa

/- Three runs in one memory. -/
namespace Go.Proofs.Ytljpeochlacdnaa
namespace Rn
open Go.RowKit Gr

/-- a run's place, and what it is of -/
structure Rp where
  P : Nat
  G : Nat
  nm : ByteArray
  dl : Int
  s : Option Addr × Nat × Nat
  xs : List No
def Rp.At (T : Nat → Prop) (w : World) (p : Rp) (R : Rs) : Prop := RunAt T w p.P p.G p.nm p.dl p.s p.xs R
/-- two runs have no block in common -/
def Rp.far (p q : Rp) : Prop := p.P ≠ q.P ∧ p.P ≠ q.G ∧ p.G ≠ q.P ∧ p.G ≠ q.G
theorem Rp.far.symm {p q : Rp} (h : p.far q) : q.far p := ⟨fun e => h.1 e.symm, fun e => h.2.2.1 e.symm, fun e => h.2.1 e.symm, fun e => h.2.2.2 e.symm⟩
/-- a step of another run -/
theorem Rp.other {T : Nat → Prop} {w w' : World} {p q : Rp} {R S : Rs} (h : p.At T w R) (hq : q.At T w S) (k : Keep (fun k => k = p.P ∨ k = p.G) w w') (hf : p.far q) : q.At T w' S :=
  RunAt.keep hq k fun i hi => .inr ⟨by rcases hi with e | e; exact e ▸ h.tp; exact e ▸ h.tg, by rcases hi with e | e; exact e ▸ hf.1; exact e ▸ hf.2.2.1, by rcases hi with e | e; exact e ▸ hf.2.1; exact e ▸ hf.2.2.2⟩
/-- the three runs of the law; w1: the world from which on nothing below is touched -/
structure Tr (T : Nat → Prop) (w1 : World) (p q r : Rp) (A B C : Rs) (w : World) : Prop where
  a : p.At T w A
  b : q.At T w B
  c : r.At T w C
  bel : Below w1.heap.size w1 w
  hi : ∀ k, T k → w1.heap.size ≤ k
  pq : p.far q
  pr : p.far r
  qr : q.far r
  lt : ∀ k, T k → k < w.heap.size
section
variable {T : Nat → Prop} {w1 w w' : World} {p q r : Rp} {A B C X : Rs}
theorem Tr.new (h : Tr T w1 p q r A B C w) (k : Keep (fun _ => False) w w') : Tr T w1 p q r A B C w' :=
  ⟨RunAt.new h.a k, RunAt.new h.b k, RunAt.new h.c k, h.bel.trans (k.below h.bel.size fun _ f => f.elim), h.hi, h.pq, h.pr, h.qr, fun i hi => Nat.lt_of_lt_of_le (h.lt i hi) k.size⟩
theorem Tr.bl (h : Tr T w1 p q r A B C w) {z : Rp} {Z : Rs} (hz : z.At T w Z) (k : Keep (fun k => k = z.P ∨ k = z.G) w w') : Below w1.heap.size w1 w' :=
  h.bel.trans (k.below h.bel.size fun i hi => by
    rcases hi with e | e
    · exact e ▸ h.hi _ hz.tp
    · exact e ▸ h.hi _ hz.tg)
theorem Tr.stepA (h : Tr T w1 p q r A B C w) (k : Keep (fun k => k = p.P ∨ k = p.G) w w') (hr : p.At T w' X) : Tr T w1 p q r X B C w' :=
  ⟨hr, Rp.other h.a h.b k h.pq, Rp.other h.a h.c k h.pr, h.bl h.a k, h.hi, h.pq, h.pr, h.qr, fun i hi => Nat.lt_of_lt_of_le (h.lt i hi) k.size⟩
theorem Tr.stepB (h : Tr T w1 p q r A B C w) (k : Keep (fun k => k = q.P ∨ k = q.G) w w') (hr : q.At T w' X) : Tr T w1 p q r A X C w' :=
  ⟨Rp.other h.b h.a k h.pq.symm, hr, Rp.other h.b h.c k h.qr, h.bl h.b k, h.hi, h.pq, h.pr, h.qr, fun i hi => Nat.lt_of_lt_of_le (h.lt i hi) k.size⟩
theorem Tr.stepC (h : Tr T w1 p q r A B C w) (k : Keep (fun k => k = r.P ∨ k = r.G) w w') (hr : r.At T w' X) : Tr T w1 p q r A B X w' :=
  ⟨Rp.other h.c h.a k h.pr.symm, Rp.other h.c h.b k h.qr.symm, hr, h.bl h.c k, h.hi, h.pq, h.pr, h.qr, fun i hi => Nat.lt_of_lt_of_le (h.lt i hi) k.size⟩
end
end Rn
end Go.Proofs.Ytljpeochlacdnaa

/- RunApart: what stands between its steps. -/
namespace Go.Proofs.Ytljpeochlacdnaa
namespace Rn
open Go.RowKit Gr

/-- the run behind so many steps of a script -/
def stR (xs : List Nx) (R0 : Rs) (qs : List Sp) (i : Nat) : Rs := (qs.take i).foldl (fun R q => (doR xs R q.k q.i q.res).2) R0
theorem stR_succ {xs : List Nx} {R0 : Rs} {qs : List Sp} {i : Nat} {q : Sp} (h : qs[i]? = some q) : stR xs R0 qs (i + 1) = (doR xs (stR xs R0 qs i) q.k q.i q.res).2 := by
  unfold stR
  rw [List.take_add_one, h, List.foldl_append]
  rfl
theorem stR_over {xs : List Nx} {R0 : Rs} {qs : List Sp} {i : Nat} (h : qs.length ≤ i) : stR xs R0 qs i = stR xs R0 qs qs.length := by
  unfold stR
  rw [List.take_of_length_le h, List.take_length]
theorem stR_may {xs : List Nx} {R0 : Rs} {qs : List Sp} (hb : ∀ x ∈ xs, 1 ≤ x.bu) (h : May xs R0) (i : Nat) : May xs (stR xs R0 qs i) := by
  induction i with
  | zero => exact h
  | succ i ih =>
    by_cases hi : i < qs.length
    · rw [stR_succ (List.getElem?_eq_getElem hi)]
      exact do_may hb ih _ _ _
    · rw [stR_over (by omega), ← stR_over (xs := xs) (R0 := R0) (show qs.length ≤ i by omega)]
      exact ih
theorem stR_rsb {xs : List Nx} {R0 : Rs} {qs : List Sp} (hq : ∀ q ∈ qs, ∀ d ∈ q.res, d < 256) (h : RsB R0.ps) (i : Nat) : RsB (stR xs R0 qs i).ps := by
  induction i with
  | zero => exact h
  | succ i ih =>
    by_cases hi : i < qs.length
    · rw [stR_succ (List.getElem?_eq_getElem hi)]
      exact do_rsb ih (hq _ (List.getElem_mem hi))
    · rw [stR_over (by omega), ← stR_over (xs := xs) (R0 := R0) (show qs.length ≤ i by omega)]
      exact ih
/-- the row of changes has no block of another type -/
theorem chg_far {w : World} {b : Nat} {v : Value} {n : Nat} {l : List Value} (h : w.ownsRow b 32 4 v n l) {A : Nat} {cs : Array Value} {t : TypeId} (hA : w.heap[A]? = some (.cells cs t (0, 0))) (ht : t ≠ 32) {i : Nat} (hi : v.ownBlock = some i) (e : i = A) : False := by
  subst e
  rcases h.2 with ⟨rfl, _⟩ | ⟨g, cap, cur, rfl, _, hg, _⟩
  · simp [Value.ownBlock] at hi
  · simp [Value.ownBlock] at hi
    subst hi
    rw [hA] at hg
    injection hg with hg
    injection hg with _ hg
    exact ht hg
theorem RunAt.grow {T0 : Nat → Prop} {w w' : World} {v v' : Value} {P G : Nat} {nm : ByteArray} {dl : Int} {s : Option Addr × Nat × Nat} {xs : List No} {R : Rs} {b n : Nat} {l : List Value} (h : RunAt (fun k => T0 k ∨ v.ownBlock = some k) w P G nm dl s xs R) (ho : w.ownsRow b 32 4 v n l) (k : Keep (fun k => v.ownBlock = some k) w w') (hn : NewBlk w v v') (hP : T0 P) (hG : T0 G) : RunAt (fun k => T0 k ∨ v'.ownBlock = some k) w' P G nm dl s xs R := by
  have h2 := h.wide (U := fun k => (T0 k ∨ v.ownBlock = some k) ∨ v'.ownBlock = some k) (fun k hk => by
    rcases hk with hk | hk
    · exact .inl hk
    · rcases hn with e | e
      · exact .inl (.inr (e ▸ hk))
      · exact .inr (e k hk)) (.inl (.inl hP)) (.inl (.inl hG))
  obtain ⟨c1, h3⟩ := h.blk
  obtain ⟨c2, h4⟩ := h.prt
  have h5 := h2.keep k (fun i hi => .inr ⟨.inl (.inr hi), fun e => chg_far ho h3 (by decide) hi e, fun e => chg_far ho h4 (by decide) hi e⟩)
  exact h5.less (fun k hk => by rcases hk with hk | hk; exact .inl (.inl hk); exact .inr hk) (.inl hP) (.inl hG)
theorem LsX.grow {T0 : Nat → Prop} {w w' : World} {v v' : Value} {s : Option Addr × Nat × Nat} {l : List Nat} (h : LsX (fun k => T0 k ∨ v.ownBlock = some k) w s l) (k : Keep (fun k => v.ownBlock = some k) w w') (hn : NewBlk w v v') : LsX (fun k => T0 k ∨ v'.ownBlock = some k) w' s l := by
  have h2 := h.keep k (fun i hi => .inr (.inr hi))
  refine ⟨h2.1, ?_⟩
  rcases h.2 with ho | ho
  · exact .inl ho
  · rcases h.1.2.2 with h3 | ⟨g, off, e, hg, _⟩
    · exact .inl h3
    · refine .inr fun g' off' e' ht => ?_
      rw [e] at e'
      injection e' with e'
      injection e' with e' _
      subst e'
      rcases ht with ht | ht
      · exact ho g off e (.inl ht)
      · rcases hn with hn | hn
        · exact ho g off e (.inr (hn ▸ ht))
        · have := hn g ht; omega
theorem ChgAt.grow {T0 : Nat → Prop} {w w' : World} {v v' u : Value} {c : Chg} (h : ChgAt (fun k => T0 k ∨ v.ownBlock = some k) w u c) (k : Keep (fun k => v.ownBlock = some k) w w') (hn : NewBlk w v v') : ChgAt (fun k => T0 k ∨ v'.ownBlock = some k) w' u c := by
  obtain ⟨d, s, r, e, h1, h2, h3⟩ := h
  exact ⟨d, s, r, e, h1.grow k hn, h2.grow k hn, h3.grow k hn⟩
theorem ChgAt.kept {T : Nat → Prop} {S : Nat → Prop} {w w' : World} {u : Value} {c : Chg} (h : ChgAt T w u c) (k : Keep S w w') (hS : ∀ i, S i → w.heap.size ≤ i ∨ T i) : ChgAt T w' u c := by
  obtain ⟨d, s, r, e, h1, h2, h3⟩ := h
  exact ⟨d, s, r, e, h1.keep k hS, h2.keep k hS, h3.keep k hS⟩
/-- the blocks of three runs -/
def T6 (p q r : Rp) (k : Nat) : Prop := (k = p.P ∨ k = p.G) ∨ (k = q.P ∨ k = q.G) ∨ k = r.P ∨ k = r.G
/-- three runs, and what one of them answered -/
structure Wd (w1 : World) (p q r : Rp) (xs : List Nx) (R0 : Rs) (qs : List Sp) (v : Value) (l : List Cx) (A B C : Rs) (w : World) : Prop where
  tr : Tr (fun k => T6 p q r k ∨ v.ownBlock = some k) w1 p q r A B C w
  own : w.ownsRow w1.heap.size 32 4 v l.length (flatC l)
  el : ∀ j x, l[j]? = some x → ∃ q', qs[j]? = some q' ∧ ChgAt (fun k => T6 p q r k ∨ v.ownBlock = some k) w (.agg x.row.toArray) (doR xs (stR xs R0 qs j) q'.k q'.i q'.res).1.1
section
variable {w1 w w' : World} {p q r : Rp} {xs : List Nx} {R0 A B C X : Rs} {qs : List Sp} {v v' : Value} {l : List Cx}
theorem Wd.new (h : Wd w1 p q r xs R0 qs v l A B C w) (k : Keep (fun _ => False) w w') : Wd w1 p q r xs R0 qs v l A B C w' :=
  ⟨h.tr.new k, ownsRow_new h.own k, fun j x hj => by obtain ⟨q', h1, h2⟩ := h.el j x hj; exact ⟨q', h1, h2.kept k fun _ f => f.elim⟩⟩
theorem Wd.hold {z : Rp} {Z : Rs} (h : Wd w1 p q r xs R0 qs v l A B C w) (hz : z.At (fun k => T6 p q r k ∨ v.ownBlock = some k) w Z) (k : Keep (fun k => k = z.P ∨ k = z.G) w w') : w'.ownsRow w1.heap.size 32 4 v l.length (flatC l) ∧ ∀ j x, l[j]? = some x → ∃ q', qs[j]? = some q' ∧ ChgAt (fun k => T6 p q r k ∨ v.ownBlock = some k) w' (.agg x.row.toArray) (doR xs (stR xs R0 qs j) q'.k q'.i q'.res).1.1 := by
  obtain ⟨c1, h1⟩ := hz.blk
  obtain ⟨c2, h2⟩ := hz.prt
  refine ⟨ownsRow_keep h.own k fun i hi hh => ?_, fun j x hj => ?_⟩
  · rcases hi with e | e
    · exact chg_far h.own h1 (by decide) hh e
    · exact chg_far h.own h2 (by decide) hh e
  · obtain ⟨q', h3, h4⟩ := h.el j x hj
    exact ⟨q', h3, h4.kept k fun i hi => .inr (by
      rcases hi with e | e
      · exact e ▸ hz.tp
      · exact e ▸ hz.tg)⟩
theorem Wd.stepA (h : Wd w1 p q r xs R0 qs v l A B C w) (k : Keep (fun k => k = p.P ∨ k = p.G) w w') (hr : p.At (fun k => T6 p q r k ∨ v.ownBlock = some k) w' X) : Wd w1 p q r xs R0 qs v l X B C w' :=
  ⟨h.tr.stepA k hr, (h.hold h.tr.a k).1, (h.hold h.tr.a k).2⟩
theorem Wd.stepB (h : Wd w1 p q r xs R0 qs v l A B C w) (k : Keep (fun k => k = q.P ∨ k = q.G) w w') (hr : q.At (fun k => T6 p q r k ∨ v.ownBlock = some k) w' X) : Wd w1 p q r xs R0 qs v l A X C w' :=
  ⟨h.tr.stepB k hr, (h.hold h.tr.b k).1, (h.hold h.tr.b k).2⟩
theorem Wd.stepC (h : Wd w1 p q r xs R0 qs v l A B C w) (k : Keep (fun k => k = r.P ∨ k = r.G) w w') (hr : r.At (fun k => T6 p q r k ∨ v.ownBlock = some k) w' X) : Wd w1 p q r xs R0 qs v l A B X w' :=
  ⟨h.tr.stepC k hr, (h.hold h.tr.c k).1, (h.hold h.tr.c k).2⟩
/-- a change more is held -/
theorem Wd.grow (h : Wd w1 p q r xs R0 qs v l A B C w) (k : Keep (fun k => v.ownBlock = some k) w w') (hn : NewBlk w v v') {c : Cx} (ho : w'.ownsRow w1.heap.size 32 4 v' (l ++ [c]).length (flatC (l ++ [c]))) {q' : Sp} (hq : qs[l.length]? = some q')
    (hc : ChgAt (fun k => T6 p q r k ∨ v.ownBlock = some k) w (.agg c.row.toArray) (doR xs (stR xs R0 qs l.length) q'.k q'.i q'.res).1.1) : Wd w1 p q r xs R0 qs v' (l ++ [c]) A B C w' := by
  have hs := k.size
  refine ⟨⟨RunAt.grow h.tr.a h.own k hn (.inl (.inl rfl)) (.inl (.inr rfl)), RunAt.grow h.tr.b h.own k hn (.inr (.inl (.inl rfl))) (.inr (.inl (.inr rfl))), RunAt.grow h.tr.c h.own k hn (.inr (.inr (.inl rfl))) (.inr (.inr (.inr rfl))), h.tr.bel.trans (k.below h.tr.bel.size fun i hi => (h.own.lt i hi).1), fun i hi => ?_, h.tr.pq, h.tr.pr, h.tr.qr, fun i hi => ?_⟩, ho, fun j x hj => ?_⟩
  · rcases hi with hi | hi
    · exact h.tr.hi i (.inl hi)
    · exact (ho.lt i hi).1
  · rcases hi with hi | hi
    · exact Nat.lt_of_lt_of_le (h.tr.lt i (.inl hi)) hs
    · exact (ho.lt i hi).2
  · by_cases hj' : j < l.length
    · rw [List.getElem?_append_left hj'] at hj
      obtain ⟨q1, h1, h2⟩ := h.el j x hj
      exact ⟨q1, h1, h2.grow k hn⟩
    · have hjl := (List.getElem?_eq_some_iff.1 hj).1
      simp at hjl
      obtain rfl : j = l.length := by omega
      simp at hj
      subst hj
      exact ⟨q', hq, hc.grow k hn⟩
/-- one of the changes that are held -/
theorem Wd.at {va : Option Addr} {n vc : Nat} (h : Wd w1 p q r xs R0 qs (.slice va n vc) l A B C w) {i : Nat} {x : Cx} (hx : l[i]? = some x) {q' : Sp} (hq : qs[i]? = some q') :
    ∃ g, va = some ⟨g, 0, none⟩ ∧ w.cell? ⟨g, i * 4, none⟩ = some (.slice x.d.1 x.d.2.1 x.d.2.2) ∧ w.cell? ⟨g, i * 4 + 1, none⟩ = some (.slice x.s.1 x.s.2.1 x.s.2.2) ∧ w.cell? ⟨g, i * 4 + 2, none⟩ = some (.slice x.r.1 x.r.2.1 x.r.2.2) ∧ w.cell? ⟨g, i * 4 + 3, none⟩ = some (.int .i64 x.stt) ∧
      ChgAt (fun k => T6 p q r k ∨ (Value.slice va n vc).ownBlock = some k) w (.agg #[.slice x.d.1 x.d.2.1 x.d.2.2, .slice x.s.1 x.s.2.1 x.s.2.2, .slice x.r.1 x.r.2.1 x.r.2.2, .int .i64 x.stt]) (doR xs (stR xs R0 qs i) q'.k q'.i q'.res).1.1 := by
  obtain ⟨q1, h1, h2⟩ := h.el i x hx
  obtain rfl : q1 = q' := Option.some.inj (h1.symm.trans hq)
  have hl := (List.getElem?_eq_some_iff.1 hx).1
  obtain ⟨g, cap, cur, hv, _⟩ := h.own.2.resolve_left (fun hh => by omega)
  injection hv with hv _ _
  subst hv
  have hc : ∀ j u, x.row[j]? = some u → w.cell? ⟨g, i * 4 + j, none⟩ = some u := fun j u hu => by
    have := h.own.cells rfl (i * 4 + j) u (flatC_get l i j x u hx hu)
    rw [Addr.add_mid, Nat.zero_add] at this
    exact this
  exact ⟨g, rfl, hc 0 _ rfl, hc 1 _ rfl, hc 2 _ rfl, hc 3 _ rfl, h2⟩
end
/-- a run that was made, later -/
theorem RunAt.later {T : Nat → Prop} {w : World} {P G : Nat} {nm : ByteArray} {dl : Int} {s : Option Addr × Nat × Nat} {xs : List No} {R : Rs} (h : RunAt T w P G nm dl s xs R) : ∀ (U : Nat → Prop) (W : World), Keep (fun _ => False) w W → (∀ k, U k → T k ∨ w.heap.size ≤ k) → U P → U G → RunAt U W P G nm dl s xs R :=
  fun U _ k hU hP hG => (h.wide (U := U) hU hP hG).new k
theorem RunAt.lts {T : Nat → Prop} {w : World} {P G : Nat} {nm : ByteArray} {dl : Int} {s : Option Addr × Nat × Nat} {xs : List No} {R : Rs} (h : RunAt T w P G nm dl s xs R) : P < w.heap.size ∧ G < w.heap.size ∧ P ≠ G := by
  obtain ⟨_, h1⟩ := h.blk
  obtain ⟨_, h2⟩ := h.prt
  exact ⟨(Array.getElem?_eq_some_iff.1 h1).1, (Array.getElem?_eq_some_iff.1 h2).1, h.ne⟩
/-- the three runs, newly made: wa, wb: the worlds behind the first two, b0, c0: ahead of the second and the third -/
theorem wd_made {w1 wa wb wc b0 c0 W : World} {p q r : Rp} {xs : List Nx} {R0 A B C : Rs} {qs : List Sp}
    (ha : RunAt (fun k => k = p.P ∨ k = p.G) wa p.P p.G p.nm p.dl p.s p.xs A) (hb : RunAt (fun k => k = q.P ∨ k = q.G ∨ k < b0.heap.size) wb q.P q.G q.nm q.dl q.s q.xs B) (hc : RunAt (fun k => k = r.P ∨ k = r.G ∨ k < c0.heap.size) wc r.P r.G r.nm r.dl r.s r.xs C)
    (la : w1.heap.size ≤ p.P ∧ w1.heap.size ≤ p.G) (lb : wa.heap.size ≤ b0.heap.size ∧ b0.heap.size ≤ q.P ∧ b0.heap.size ≤ q.G) (lc : wb.heap.size ≤ c0.heap.size ∧ c0.heap.size ≤ r.P ∧ c0.heap.size ≤ r.G)
    (ka : Keep (fun _ => False) wa W) (kb : Keep (fun _ => False) wb W) (kc : Keep (fun _ => False) wc W) (hB : Below w1.heap.size w1 W) : Wd w1 p q r xs R0 qs (.slice none 0 0) [] A B C W := by
  obtain ⟨a1, a2, a3⟩ := ha.lts
  obtain ⟨b1, b2, b3⟩ := hb.lts
  obtain ⟨c1, c2, c3⟩ := hc.lts
  have s1 := ka.size
  have s2 := kb.size
  have s3 := kc.size
  refine ⟨⟨ha.later _ W ka (fun k hk => ?_) (.inl (.inl (.inl rfl))) (.inl (.inl (.inr rfl))), hb.later _ W kb (fun k hk => ?_) (.inl (.inr (.inl (.inl rfl)))) (.inl (.inr (.inl (.inr rfl)))), hc.later _ W kc (fun k hk => ?_) (.inl (.inr (.inr (.inl rfl)))) (.inl (.inr (.inr (.inr rfl)))), hB, fun k hk => ?_, ?_, ?_, ?_, fun k hk => ?_⟩, World.ownsRow_nil _ _ _ _, fun j x hj => by simp at hj⟩
  · rcases hk with ((h | h) | (h | h) | h | h) | h
    · exact .inl (.inl h)
    · exact .inl (.inr h)
    · right; omega
    · right; omega
    · right; omega
    · right; omega
    · simp [Value.ownBlock] at h
  · rcases hk with ((h | h) | (h | h) | h | h) | h
    · left; right; right; omega
    · left; right; right; omega
    · exact .inl (.inl h)
    · exact .inl (.inr (.inl h))
    · right; omega
    · right; omega
    · simp [Value.ownBlock] at h
  · rcases hk with ((h | h) | (h | h) | h | h) | h
    · left; right; right; omega
    · left; right; right; omega
    · left; right; right; omega
    · left; right; right; omega
    · exact .inl (.inl h)
    · exact .inl (.inr (.inl h))
    · simp [Value.ownBlock] at h
  · rcases hk with ((h | h) | (h | h) | h | h) | h
    · omega
    · omega
    · omega
    · omega
    · omega
    · omega
    · simp [Value.ownBlock] at h
  · refine ⟨?_, ?_, ?_, ?_⟩ <;> omega
  · refine ⟨?_, ?_, ?_, ?_⟩ <;> omega
  · refine ⟨?_, ?_, ?_, ?_⟩ <;> omega
  · rcases hk with ((h | h) | (h | h) | h | h) | h
    · omega
    · omega
    · omega
    · omega
    · omega
    · omega
    · simp [Value.ownBlock] at h
end Rn
end Go.Proofs.Ytljpeochlacdnaa
