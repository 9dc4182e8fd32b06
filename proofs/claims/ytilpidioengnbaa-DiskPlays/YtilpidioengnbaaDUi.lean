/- DiskPlays: what both steps answer; rows of pointers; the beginning. -/
import Derived.Test.YtilpidioengnbaaDUh
import Derived.Test.YtilpidioengnbaaDBeg
import Derived.Laws.Tables
namespace Go.Proofs.Ytilpidioengnbaa
namespace DP
open Go.RowKit Go.Lib

/-- two lists that were told, in memory that is new since N -/
structure LR (N : Nat) (w : World) (a1 : Option Addr) (z : List Int) (a2 : Option Addr) (l : List Nat) : Prop where
  rz : Rz w a1 z.length z
  rl : Rd w a2 l.length l
  fz : ∀ g off, a1 = some ⟨g, off, none⟩ → z.length ≠ 0 → N ≤ g
  fl : ∀ g off, a2 = some ⟨g, off, none⟩ → l.length ≠ 0 → N ≤ g
theorem Rd.lt2 {w : World} {a : Option Addr} {n : Nat} {l : List Nat} (h : Rd w a n l) : ∀ g off, a = some ⟨g, off, none⟩ → n ≠ 0 → g < w.heap.size := fun g off e h0 => by
  rcases h.2.2.2 with h1 | ⟨b, off', e', hc⟩
  · exact absurd h1 h0
  · rw [e] at e'
    injection e' with e'
    injection e' with e1 e2
    subst e1
    exact block_lt_of_cell (hc 0 (by omega))
theorem LR.keep {N : Nat} {w w' : World} {a1 a2 : Option Addr} {z : List Int} {l : List Nat} (h : LR N w a1 z a2 l) {T : Nat → Prop} (k : Keep T w w') (hT : ∀ b, N ≤ b → b < w.heap.size → ¬ T b) : LR N w' a1 z a2 l :=
  ⟨h.rz.stay k fun b off e h0 => hT b (h.fz b off e h0) (Rz.lt h.rz b off e h0), h.rl.stay' k fun b off e h0 => hT b (h.fl b off e h0) (Rd.lt2 h.rl b off e h0), h.fz, h.fl⟩
theorem lr_of {N : Nat} {w : World} {vl vb : Value} {z : List Int} {l : List Nat} (hl : w.ownsRow 0 3 1 vl z.length (z.map (Value.int .i64))) (hr : Row w vb l) (h1 : z ≠ [] → ∀ g, vl.ownBlock = some g → N ≤ g) (h2 : l ≠ [] → ∀ g, vb.ownBlock = some g → N ≤ g)
    (hz : z.length ≤ 17592186044416) (hzb : ∀ x ∈ z, -9223372036854775808 ≤ x ∧ x ≤ 9223372036854775807) (hll : l.length < 281474976710656) : ∃ a1 c1 a2 c2, vl = .slice a1 z.length c1 ∧ vb = .slice a2 l.length c2 ∧ LR N w a1 z a2 l := by
  obtain ⟨ba, bc, hv, hrd, _, _, hg⟩ := hr.rd hll
  have hfl : ∀ g off, ba = some ⟨g, off, none⟩ → l.length ≠ 0 → N ≤ g := fun g off e h0 => by
    obtain ⟨g', e1, e2⟩ := hg _ e
    injection e1 with e1
    subst e1
    exact h2 (fun e => h0 (by rw [e]; rfl)) g e2
  rcases hl.2 with ⟨e, h0⟩ | ⟨g, cap, cur, e, _, _, _⟩
  · exact ⟨none, 0, ba, bc, by rw [e, h0], hv, ⟨rfl, hz, hzb, .inl h0⟩, hrd, (fun g off e => by cases e), hfl⟩
  · refine ⟨_, cap, ba, bc, e, hv, ⟨rfl, hz, hzb, .inr ⟨g, 0, rfl, fun i hi => ?_⟩⟩, hrd, fun g' off e1 h0 => ?_, hfl⟩
    · have hz2 : (z.map (Value.int .i64))[i]? = some (.int .i64 (z.getD i 0)) := by
        rw [List.getElem?_map, List.getElem?_eq_getElem hi, List.getD_eq_getElem?_getD, List.getElem?_eq_getElem hi]
        rfl
      subst e
      have := hl.cells (g := g) rfl i _ hz2
      rw [Addr.add_lit, Nat.zero_add] at this
      rw [Nat.zero_add]
      exact this
    · injection e1 with e1
      injection e1 with e1 _
      subst e1
      exact h1 (fun e => h0 (by rw [e]; rfl)) g (by rw [e]; rfl)
theorem keep_row (w : World) (g : Nat) (cs : Array Value) : Keep (fun k => k = g) w (w.setRow g cs) := ⟨rfl, rfl, rfl, by simp [World.setRow], fun i _ hi => setRow_other w g i _ hi⟩
/-- what stands on a set of blocks -/
structure Stays (G : (Nat → Prop) → World → Prop) : Prop where
  stay : ∀ {S T : Nat → Prop} {w w' : World}, G S w → Keep T w w' → (∀ k, S k → ¬ T k) → G S w'
  low : ∀ {S : Nat → Prop} {w : World}, G S w → G (fun k => S k ∧ k < w.heap.size) w
  mono : ∀ {S T : Nat → Prop} {w : World}, G S w → (∀ k, S k → T k) → G T w
/-- a disk behind a step, in the state of the document's -/
def GD (p : Nat) (f : Rf) (n : Nat) (S : Nat → Prop) (w : World) : Prop := ∃ t, DAt S w p t ∧ Ag f t ∧ Good n t
theorem staysD (p : Nat) (f : Rf) (n : Nat) : Stays (GD p f n) :=
  ⟨fun ⟨t, h, a, g⟩ k e => ⟨t, h.stay k fun i _ => e i, a, g⟩, fun ⟨t, h, a, g⟩ => ⟨t, h.low, a, g⟩, fun ⟨t, h, a, g⟩ e => ⟨t, h.mono e, a, g⟩⟩
theorem staysR (r : Nat) (f : Rf) : Stays fun S w => RIn S w r f := ⟨fun h k e => h.stay k fun i _ => e i, fun h => h.low, fun h e => h.mono e⟩
/-- behind a call whose answer was stored in a struct of its own -/
structure Aft (G : (Nat → Prop) → World → Prop) (w : World) (S : Nat → Prop) (c n : Int) (b : Bool) (z : List Int) (l : List Nat) (X : Nat) (w3 : World) : Prop where
  g : G (fun i => S i ∨ w.heap.size ≤ i) w3
  kp : Keep S w w3
  x : w.heap.size ≤ X
  t : ∃ a1 c1 a2 c2, w3.heap[X]? = some (.cells #[.int .i64 c, .int .i64 n, .bool b, .slice a1 z.length c1, .slice a2 l.length c2] 40 (0, 0)) ∧ LR w.heap.size w3 a1 z a2 l
theorem Aft.one {G : (Nat → Prop) → World → Prop} (hG : Stays G) {w w2 : World} {S : Nat → Prop} {a1 a2 : Option Addr} {c1 c2 : Nat} {z : List Int} {l : List Nat} (c n : Int) (b : Bool)
    (h : G (fun i => S i ∨ w.drew.heap.size ≤ i) w2) (hk : Keep S w.drew w2) (hr : LR w.drew.heap.size w2 a1 z a2 l) :
    Aft G w S c n b z l w2.heap.size ((w2.alloc (.cells #[.int .i64 0, .int .i64 0, .bool false, .slice none 0 0, .slice none 0 0] 40)).setRow w2.heap.size #[.int .i64 c, .int .i64 n, .bool b, .slice a1 z.length c1, .slice a2 l.length c2]) := by
  have k1 : Keep S w w2 := (Keep.drew S w).more hk
  have kA : Keep (fun i => i = w2.heap.size) w2 ((w2.alloc (.cells #[.int .i64 0, .int .i64 0, .bool false, .slice none 0 0, .slice none 0 0] 40)).setRow w2.heap.size #[.int .i64 c, .int .i64 n, .bool b, .slice a1 z.length c1, .slice a2 l.length c2]) := (Keep.alloc _ _ _).more (keep_row _ _ _)
  have zz := k1.size
  refine ⟨hG.mono (hG.stay (hG.low h) kA fun i e e' => ?_) fun i e => e.1, k1.trans kA fun i e => .inr ?_, zz, a1, c1, a2, c2, setRow_heap _ _ _ _ _ _ (heap_alloc_new w2 _), hr.keep kA fun g _ e e' => ?_⟩
  · have := e.2; have e' : i = _ := e'; omega
  · have e : i = _ := e; omega
  · have e' : g = _ := e'; omega
theorem Aft.two {G : (Nat → Prop) → World → Prop} (hG : Stays G) {w w2 : World} {S : Nat → Prop} {a1 a2 : Option Addr} {c1 c2 : Nat} {z : List Int} {l : List Nat} (c n : Int) (b : Bool) (hS : ∀ i, S i → i < w.heap.size)
    (h : G (fun i => S i ∨ w.heap.size + 1 ≤ i) w2) (hk : Keep S (w.drew.alloc (.cells #[.int .i64 0, .int .i64 0, .bool false, .slice none 0 0, .slice none 0 0] 40)) w2) (hr : LR (w.heap.size + 1) w2 a1 z a2 l) :
    Aft G w S c n b z l w.heap.size (w2.setRow w.heap.size #[.int .i64 c, .int .i64 n, .bool b, .slice a1 z.length c1, .slice a2 l.length c2]) := by
  have k1 : Keep S w w2 := ((Keep.drew S w).more (Keep.alloc _ _ _)).more hk
  have kA : Keep (fun i => i = w.heap.size) w2 (w2.setRow w.heap.size #[.int .i64 c, .int .i64 n, .bool b, .slice a1 z.length c1, .slice a2 l.length c2]) := keep_row _ _ _
  have hr2 := hr.keep kA fun g e _ e' => by have e' : g = _ := e'; omega
  refine ⟨hG.mono (hG.stay h kA fun i e e' => ?_) fun i e => e.imp (fun x => x) fun e => by omega, k1.trans kA fun i e => .inr ?_, Nat.le_refl _, a1, c1, a2, c2, setRow_heap _ _ _ _ _ _ (hk.blk (heap_alloc_new w.drew _) fun e => ?_), hr2.rz, hr2.rl, fun g off e h0 => ?_, fun g off e h0 => ?_⟩
  · have e' : i = _ := e'
    rcases e with e | e
    · have := hS i e; omega
    · omega
  · have e : i = _ := e; omega
  · have := hS _ e; exact Nat.lt_irrefl _ this
  · have := hr.fz g off e h0; omega
  · have := hr.fl g off e h0; omega
/-- a call that answers so, and leaves so -/
def Tells (G : (Nat → Prop) → World → Prop) (S : Nat → Prop) (c n : Int) (b : Bool) (z : List Int) (l : List Nat) (w : World) (e : Ending) (w2 : World) : Prop :=
  ∃ a1 c1 a2 c2, e = .returned (.agg #[.int .i64 c, .int .i64 n, .bool b, .slice a1 z.length c1, .slice a2 l.length c2]) ∧ LR w.heap.size w2 a1 z a2 l ∧ G (fun i => S i ∨ w.heap.size ≤ i) w2 ∧ Keep S w w2
theorem ks_fit {f : Rf} {s : St} {n : Nat} (h : Ag f s) (g : Good n s) (hn : n ≤ 70368744177664) (q : Stp) : (ksR f q).length ≤ 1099511627776 ∧ (∀ x ∈ ksR f q, -9223372036854775808 ≤ x ∧ x ≤ 9223372036854775807) ∧ (bsR f q).length ≤ 67108864 := by
  refine ⟨?_, fun x hx => ?_, ?_⟩
  · unfold ksR
    split
    · rw [List.length_map]; exact (fit_of h g hn).len
    · exact Nat.zero_le _
  · unfold ksR at hx
    split at hx
    · obtain ⟨e, he, rfl⟩ := List.mem_map.1 hx
      have := g.seg e.1 (by unfold St.held; rw [h.th, h.srt.mem he]; simp)
      omega
    · cases hx
  · unfold bsR
    split
    · cases hl : lookS f.th q.seg with
      | none => exact Nat.zero_le _
      | some b => exact (fit_of h g hn).by_ _ (lookS_some hl)
    · exact Nat.zero_le _
/-- both steps answer alike -/
theorem both {f : Rf} {s : St} {n : Nat} (ha : Ag f s) (g : Good n s) (hn : n < 70368744177664) (q : Stp) (hm : More q) :
    (∀ (S : Nat → Prop) (p : Nat) (B : Nat) (w : World), DAt S w p s → (∀ i, S i → B ≤ i ∧ i < w.heap.size) → B ≤ w.heap.size → StpOk w q → q.out (fun i => B ≤ i) →
      Calls Try.prog 10 #[.pointer (some ⟨p, 0, none⟩), q.val] w (Tells (GD p (stepR f q).2 (n + 1)) S (stepR f q).1 (numR f q) (isR f q) (ksR f q) (bsR f q) w)) ∧
    (∀ (S : Nat → Prop) (r : Nat) (w : World), RIn S w r f → (∀ i, S i → i < w.heap.size) → StpOk w q →
      Calls Try.prog 11 #[.pointer (some ⟨r, 0, none⟩), q.val] w (Tells (fun S w => RIn S w r (stepR f q).2) S (stepR f q).1 (numR f q) (isR f q) (ksR f q) (bsR f q) w)) := by
  obtain ⟨f1, f2, f3⟩ := ks_fit ha g (Nat.le_of_lt hn) q
  refine ⟨fun S p B w h hS hB hq ho => ?_, fun S r w h hS hq => ?_⟩
  · refine (stepped_fr (fun i => S i ∨ w.heap.size ≤ i) w p s q (h.mono fun _ e => .inl e) g (Nat.le_of_lt hn) (fun i e => .inr e) hq (ho.mono fun i e => ?_)).mono ?_
    · rcases e with e | e
      · exact (hS i e).1
      · omega
    · rintro e w2 ⟨c, N, is, vl, vb, ks, bs, t, rfl, hst, han, hd, hk, hl, hr, n1, n2⟩
      obtain ⟨e1, e2⟩ := step_ag ha g hst
      obtain ⟨a1, a2, a3, a4⟩ := ans_ag ha g han
      rw [a3] at f1 f2
      rw [a4] at f3
      obtain ⟨b1, c1, b2, c2, rfl, rfl, hlr⟩ := lr_of hl hr n1 n2 (by omega) f2 (by omega)
      rw [e1, a1, a2, a3, a4]
      exact ⟨b1, c1, b2, c2, rfl, hlr, ⟨t, hd, e2, g.step hq.n.2 hst⟩, ⟨hk.os, hk.tape, hk.output, hk.size, fun b hb hs => hk.block b hb fun e => e.elim hs fun e => by omega⟩⟩
  · refine (wanted_any (fun i => S i ∨ w.heap.size ≤ i) w r f q (h.mono fun _ e => .inl e) (fitW_of ha g (Nat.le_of_lt hn) q.fate) (fun i e => .inr e) hq hm).mono ?_
    rintro e w2 ⟨vl, vb, rfl, hd, hk, hl, hr, n1, n2⟩
    obtain ⟨b1, c1, b2, c2, rfl, rfl, hlr⟩ := lr_of hl hr (fun _ => n1) (fun _ => n2) (by omega) f2 (by omega)
    exact ⟨b1, c1, b2, c2, rfl, hlr, hd, ⟨hk.os, hk.tape, hk.output, hk.size, fun b hb hs => hk.block b hb fun e => e.elim hs fun e => by omega⟩⟩
theorem info_pd : (Try.prog.info? 24).map (fun i => (i.zero, i.size, i.bytes)) = some (some (.pointer none), 1, 8) := by kernel_rfl
theorem info_pr : (Try.prog.info? 26).map (fun i => (i.zero, i.size, i.bytes)) = some (some (.pointer none), 1, 8) := by kernel_rfl
theorem wp_app_pd {w : World} {ops : Array Oper} {rest : List Oper} {o : Oper} {a : Act} {Q : Exit → Act → World → Prop} (hgd : o.guard = none) (s x : Operand)
    (ho : o.op = .call { callee := .builtin .append, args := #[s, x], argTypes := #[31, 31] })
    (base : Nat) (v : Value) (n : Nat) (xs : List Value) (hs : a.eval s = v) (hown : w.ownsRow base 24 1 v n xs) (B : Nat) (u : Value) (hx : a.eval x = .slice (some ⟨B, 0, none⟩) 1 1) (hq : w.heap[B]? = some (.cells #[u] 24 (0, 0))) (h1 : u.oneCell' = true) (hn : n ≤ 2199023255552) (hbase : base ≤ w.heap.size)
    (h : ∀ v' w', w'.ownsRow base 24 1 v' (n + 1) (xs ++ [u]) → Keep (fun k => v.ownBlock = some k) w w' → (∀ g, v'.ownBlock = some g → v.ownBlock = some g ∨ w.heap.size ≤ g) → wpList Try.prog ops Q rest (a.put o.dst v') w') : wpList Try.prog ops Q (o :: rest) a w := by
  obtain ⟨i0, hi, hz0, hz1, hz2⟩ := info_parts info_pd
  refine wpList_append_own_at _ hgd s x 31 ho base 24 i0 _ 1 8 Try.underlying31 hi hz0 hz1 hz2 rfl (by decide) v n xs hs hown ⟨B, 0, none⟩ 1 1 [u] hx rfl (fun j y hy => ?_) (fun y hy => ?_) (by unfold maxLen; omega) (by omega) hbase ?_
  · have e : (⟨B, 0, none⟩ : Addr).add j = ⟨B, j, none⟩ := by unfold Addr.add; split <;> simp_all
    rw [e, cell_of_row _ _ _ _ _ _ hq]
    simpa using hy
  · simp at hy
    rw [hy]
    exact h1
  · intro v' w' h1 h2 _ h3
    refine h v' w' h1 (Keep.grown h2 fun k e => e) fun g e => ?_
    rcases h3 with h3 | h3
    · rw [h3] at e; exact .inl e
    · rw [h3] at e
      injection e with e
      exact .inr (by omega)
theorem wp_app_pr {w : World} {ops : Array Oper} {rest : List Oper} {o : Oper} {a : Act} {Q : Exit → Act → World → Prop} (hgd : o.guard = none) (s x : Operand)
    (ho : o.op = .call { callee := .builtin .append, args := #[s, x], argTypes := #[32, 32] })
    (base : Nat) (v : Value) (n : Nat) (xs : List Value) (hs : a.eval s = v) (hown : w.ownsRow base 26 1 v n xs) (B : Nat) (u : Value) (hx : a.eval x = .slice (some ⟨B, 0, none⟩) 1 1) (hq : w.heap[B]? = some (.cells #[u] 26 (0, 0))) (h1 : u.oneCell' = true) (hn : n ≤ 2199023255552) (hbase : base ≤ w.heap.size)
    (h : ∀ v' w', w'.ownsRow base 26 1 v' (n + 1) (xs ++ [u]) → Keep (fun k => v.ownBlock = some k) w w' → (∀ g, v'.ownBlock = some g → v.ownBlock = some g ∨ w.heap.size ≤ g) → wpList Try.prog ops Q rest (a.put o.dst v') w') : wpList Try.prog ops Q (o :: rest) a w := by
  obtain ⟨i0, hi, hz0, hz1, hz2⟩ := info_parts info_pr
  refine wpList_append_own_at _ hgd s x 32 ho base 26 i0 _ 1 8 Try.underlying32 hi hz0 hz1 hz2 rfl (by decide) v n xs hs hown ⟨B, 0, none⟩ 1 1 [u] hx rfl (fun j y hy => ?_) (fun y hy => ?_) (by unfold maxLen; omega) (by omega) hbase ?_
  · have e : (⟨B, 0, none⟩ : Addr).add j = ⟨B, j, none⟩ := by unfold Addr.add; split <;> simp_all
    rw [e, cell_of_row _ _ _ _ _ _ hq]
    simpa using hy
  · simp at hy
    rw [hy]
    exact h1
  · intro v' w' h1 h2 _ h3
    refine h v' w' h1 (Keep.grown h2 fun k e => e) fun g e => ?_
    rcases h3 with h3 | h3
    · rw [h3] at e; exact .inl e
    · rw [h3] at e
      injection e with e
      exact .inr (by omega)
/-- what all answers, in a block of its own -/
def AllNw (w : World) (n : Nat) (e : Ending) (w' : World) : Prop :=
  ∃ (a : Option Addr) (c : Nat), e = .returned (.slice a n c) ∧ Rz w' a n (List.replicate n 1099511627776) ∧ Keep (fun _ => False) w w' ∧ ∀ g off, a = some ⟨g, off, none⟩ → w.heap.size ≤ g ∧ g < w'.heap.size
set_option maxRecDepth 100000 in
set_option maxHeartbeats 4000000 in
theorem all_new (w : World) (n : Nat) (hn : n ≤ 1466015503701) : Calls Try.prog 13 #[.int .i64 (n : Nat)] w (AllNw w n) := by
  obtain ⟨i0, hi, hz0, hz1, hz2⟩ := info_parts info_i
  go_enter Try.func13, Try.ntmps13
  go_wp2
  go_loopw [3, 4] (fun v iv wr => ∃ (q : Nat), q ≤ n ∧ iv = .int .i64 (q : Nat) ∧ wr.ownsRow w.heap.size 3 1 v q ((List.replicate q 1099511627776).map (Value.int .i64)) ∧ Hid (Keep (fun _ => False) w wr)) (fun _ iv _ => n - (intOf iv).toNat)
  case atStart => exact ⟨0, Nat.zero_le _, rfl, World.ownsRow_nil _ _ _ _, Keep.refl _ _⟩
  case round =>
    obtain ⟨q, hqm, rfl, hrow, HK⟩ := hrel
    by_cases hq : q < n
    · have hq0 : (q : Int) < n := by omega
      have hw : wrap64 ((q : Int) + 1) = ((q + 1 : Nat) : Int) := wr' (by omega) (by omega) (by omega)
      have HQ := hide (show q + 1 ≤ n by omega)
      have hsz := HK.out.size
      go_wp2_with (first
        | (at_builtin; refine wpList_append_own_at _ rfl _ _ 34 rfl w.heap.size 3 i0 (.int .i64 0) 1 8 Try.underlying34 hi hz0 hz1 hz2 rfl (by decide) _ _ _ rfl (hrow.alloc _) ⟨wr.heap.size, 0, none⟩ 1 1 [.int .i64 1099511627776] rfl rfl ?c1 ?c2 ?c3 ?c4 ?c5 ?_)
        | go_in)
      case c1 =>
        intro j u hj
        match j, hj with
        | 0, hj => simp at hj; subst hj; simp [Addr.add]
      case c2 => intro u hu; simp at hu; subst hu; rfl
      case c3 => have := HQ.out; unfold maxLen; omega
      case c4 => have := HQ.out; omega
      case c5 => simp; omega
      · intro v' w4 hown' hgrow _ hloc
        have HK4 : Hid (Keep (fun _ => False) w w4) := (HK.out.more (Keep.alloc _ _ _)).grownNew hgrow fun k e => .inr ((hrow.alloc (.cells #[.int .i64 1099511627776] 3)).lt k e).1
        have hown4 : w4.ownsRow w.heap.size 3 1 v' (q + 1) ((List.replicate (q + 1) 1099511627776).map (Value.int .i64)) := by
          rw [List.replicate_succ', List.map_append, List.map_replicate]; exact hown'
        clear hown' hgrow hloc hrow HK
        go_wp2
        go_roundw
        case rel => exact ⟨q + 1, HQ.out, rfl, hown4, HK4⟩
        case measure => show n - (((q + 1 : Nat) : Int)).toNat < n - ((q : Int)).toNat; have := HQ.out; omega
    · obtain rfl : q = n := by omega
      have hqq : ¬ (q : Int) < q := by omega
      obtain ⟨av, cv, hv⟩ := ownsRow_shape hrow
      subst hv
      have HE : Hid (AllNw w q (.returned (.slice av q cv)) wr) := by
        refine ⟨av, cv, rfl, ⟨by simp, by omega, fun x hx => by rw [List.eq_of_mem_replicate hx]; decide, ?_⟩, HK.out, fun g off e => ?_⟩
        · by_cases h0 : q = 0
          · exact .inl h0
          · right
            obtain ⟨g, e, _, _⟩ := ownsRow_ints hrow 0 (by simp; omega)
            refine ⟨g, 0, e, fun i hi => ?_⟩
            obtain ⟨g', e', _, hc⟩ := ownsRow_ints hrow i (by simp; exact hi)
            rw [e] at e'
            injection e' with e'
            injection e' with e' _
            subst e'
            rw [Nat.zero_add, hc]
            simp [List.getD, hi]
        · exact hrow.lt g (by rw [e]; rfl)
      clear hrow hq
      go_wp2
      go_ret
      exact HE.out

end DP
end Go.Proofs.Ytilpidioengnbaa
