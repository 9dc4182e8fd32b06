/- Package run: a node's copy; a run that is being copied. -/
import Derived.Test.YtiackejbpcjmeaaRMst
import Derived.Test.YtiackejbpcjmeaaRNw2
import Derived.Test.YtiackejbpcjmeaaRTdR
namespace Go.Proofs.Ytiackejbpcjmeaa
namespace Rn
open Go.RowKit Gr

def put5 (w : World) (g : Nat) (a b c d e : Value) : World := ((((w.setCell ⟨g, 0, none⟩ a).setCell ⟨g, 1, none⟩ b).setCell ⟨g, 2, none⟩ c).setCell ⟨g, 3, none⟩ d).setCell ⟨g, 4, none⟩ e
theorem put5_keep (w : World) (g : Nat) (a b c d e : Value) : Keep (fun i => i = g) w (put5 w g a b c d e) := ((((keep_cell w g 0 a).more (keep_cell _ g 1 b)).more (keep_cell _ g 2 c)).more (keep_cell _ g 3 d)).more (keep_cell _ g 4 e)
theorem put5_blk {w : World} {g : Nat} {x0 x1 x2 x3 x4 : Value} {t : TypeId} (h : w.heap[g]? = some (.cells #[x0, x1, x2, x3, x4] t (0, 0))) (a b c d e : Value) : (put5 w g a b c d e).heap[g]? = some (.cells #[a, b, c, d, e] t (0, 0)) := by
  unfold put5
  exact (set_blk (set_blk (set_blk (set_blk (set_blk h 0 a) 1 b) 2 c) 3 d) 4 e).trans rfl
theorem info_ns5 : (Try.prog.info? 40).map (·.size) = some 5 := by kernel_rfl
theorem res_ns {fn : Func} {p : Tmp} (h : fn.results = #[.cell p 40]) (tmps : Array Value) (w : World) (g : Nat) (a b c d e : Value) (hp : tmps.getD p undef = .pointer (some ⟨g, 0, none⟩)) (hg : w.heap[g]? = some (.cells #[a, b, c, d, e] 40 (0, 0))) :
    (results fn tmps).run Try.prog w = .ok (.agg #[a, b, c, d, e]) w := by
  have hp' : tmps[p]?.getD undef = .pointer (some ⟨g, 0, none⟩) := by simpa using hp
  simp [results, h, hp', asAddr, run_loadVar_row w g 40 40 #[a, b, c, d, e] (0, 0) _ hg Try.underlying40 rfl (by rw [info_ns5]; rfl)]
set_option maxRecDepth 100000 in
set_option maxHeartbeats 4000000 in
theorem copyState_any (p : Pt) (m : Option Addr × Nat × Nat) (w : World) (hr : Rd w m.1 m.2.1 p.rs) (hc : m.1 = none → m.2.2 = 0) (hl : p.rs.length ≤ 1000) :
    Calls Try.prog 33 #[.agg #[.int .i64 p.st, .int .i64 p.tr, .int .i64 0, .int .i64 0, .slice m.1 m.2.1 m.2.2]] w fun e w' => ∃ m' : Option Addr × Nat × Nat, e = .returned (.agg #[.int .i64 p.st, .int .i64 p.tr, .int .i64 0, .int .i64 0, .slice m'.1 m'.2.1 m'.2.2]) ∧ w'.ownsRow w.heap.size 5 1 (.slice m'.1 m'.2.1 m'.2.2) p.rs.length (B8 p.rs) ∧ Keep (fun _ => False) w w' := by
  obtain ⟨st, tr, rs⟩ := p
  obtain ⟨a, n, c⟩ := m
  simp only at hr hc hl ⊢
  have hn : n ≤ 140737488355328 := by have := hr.1; omega
  have k1 := Keep.alloc (fun _ => False) w (.cells #[.int .i64 st, .int .i64 tr, .int .i64 0, .int .i64 0, .slice a n c] 40)
  have b1 := heap_alloc_new w (.cells #[.int .i64 st, .int .i64 tr, .int .i64 0, .int .i64 0, .slice a n c] 40)
  have z1 : (w.alloc (.cells #[.int .i64 st, .int .i64 tr, .int .i64 0, .int .i64 0, .slice a n c] 40)).heap.size = w.heap.size + 1 := by simp
  have k2 := Keep.alloc (fun _ => False) (w.alloc (.cells #[.int .i64 st, .int .i64 tr, .int .i64 0, .int .i64 0, .slice a n c] 40)) (.cells #[.int .i64 0, .int .i64 0, .int .i64 0, .int .i64 0, .slice none 0 0] 40)
  have b2 := heap_alloc_new (w.alloc (.cells #[.int .i64 st, .int .i64 tr, .int .i64 0, .int .i64 0, .slice a n c] 40)) (.cells #[.int .i64 0, .int .i64 0, .int .i64 0, .int .i64 0, .slice none 0 0] 40)
  rw [z1] at b2
  have HA := hide (k2.blk b1 (fun f => f))
  have HB := hide b2
  have K2 := hide (k1.more k2)
  clear b1 b2 k1 k2
  go_enter Try.func33, Try.ntmps33
  go_upto_region 1 with fail
  try simp only [z1]
  clear z1
  generalize (w.alloc (.cells #[.int .i64 st, .int .i64 tr, .int .i64 0, .int .i64 0, .slice a n c] 40)).alloc (.cells #[.int .i64 0, .int .i64 0, .int .i64 0, .int .i64 0, .slice none 0 0] 40) = w2 at *
  have o0 := cell_blk HA.out 0 (v := .int .i64 st) rfl
  have o1 := cell_blk HA.out 1 (v := .int .i64 tr) rfl
  have o4 := cell_blk HA.out 4 (v := .slice a n c) rfl
  have kd := Keep.drew (fun _ => False) w2
  have CL := hide (clone_any a n c rs w2.drew (hr.stay (S := fun _ => False) (K2.out.more kd) (fun _ _ _ f => f)) hc hn)
  have hwz : w2.drew.heap.size = w2.heap.size := rfl
  clear hr hc hn
  refine RL.wp_region_held_last (S := fun wx => wx.cell? ⟨w.heap.size, 0, none⟩ = some (.int .i64 st) ∧ wx.cell? ⟨w.heap.size, 1, none⟩ = some (.int .i64 tr) ∧ wx.cell? ⟨w.heap.size, 4, none⟩ = some (.slice a n c)) rfl (by kernel_rfl) (by kernel_rfl) ⟨o0, o1, o4⟩ (fun hHeld => ?_)
  change wpAnyH _ _ _ _ _ 9 (Array.replicate 9 false) _ _
  simp only [List.dropLast, List.getLast, List.cons_append, List.nil_append, RL.still]
  refine wpAnyH_take (i := 0) (oi := _) (v := ?_) rfl (by kernel_rfl) (by kernel_rfl) (by kernel_rfl) (fun _ _ _ h => h) (Or.inl ⟨by rfl, ?_⟩) (by assumption) ?_
  rotate_left
  · (intro w hSw; (try dsimp only at hSw); go_simp)
    all_goals with_reducible rfl
  go_simp
  refine wpAnyH_take (i := 1) (oi := _) (v := ?_) rfl (by kernel_rfl) (by kernel_rfl) (by kernel_rfl) (fun _ _ _ h => h) (Or.inl ⟨by rfl, ?_⟩) (by assumption) ?_
  rotate_left
  · (intro w hSw; (try dsimp only at hSw); go_simp)
    all_goals with_reducible rfl
  go_simp
  refine wpAnyH_take (i := 2) (oi := _) (v := ?_) rfl (by kernel_rfl) (by kernel_rfl) (by kernel_rfl) (fun _ _ _ h => h) (Or.inl ⟨by rfl, ?_⟩) (by assumption) ?_
  rotate_left
  · (intro w hSw; (try dsimp only at hSw); go_simp)
    all_goals with_reducible rfl
  go_simp
  refine wpAnyH_take (i := 3) (oi := _) (v := ?_) rfl (by kernel_rfl) (by kernel_rfl) (by kernel_rfl) (fun _ _ _ h => h) (Or.inl ⟨by rfl, ?_⟩) (by assumption) ?_
  rotate_left
  · (intro w hSw; (try dsimp only at hSw); go_simp)
    all_goals with_reducible rfl
  go_simp
  refine wpAnyH_take (i := 4) (oi := _) (v := ?_) rfl (by kernel_rfl) (by kernel_rfl) (by kernel_rfl) (fun _ _ _ h => h) (Or.inl ⟨by rfl, ?_⟩) (by assumption) ?_
  rotate_left
  · (intro w hSw; (try dsimp only at hSw); go_simp)
    all_goals with_reducible rfl
  go_simp
  refine wpAnyH_take (i := 5) (oi := _) (v := ?_) rfl (by kernel_rfl) (by kernel_rfl) (by kernel_rfl) (fun _ _ _ h => h) (Or.inl ⟨by rfl, ?_⟩) (by assumption) ?_
  rotate_left
  · (intro w hSw; (try dsimp only at hSw); go_simp)
    all_goals with_reducible rfl
  go_simp
  refine wpAnyH_ready (rs := [6]) (by kernel_rfl) (by simp) ?_
  refine AllReadyH.cons (o := _) rfl (fun K hK => ?_) AllReadyH.nil
  rw [if_pos (by rfl)]
  go_simp
  go_at_call 38
  refine CL.out.mono ?_
  rintro e w3 ⟨v, rfl, ho, hb⟩
  have k3 := kd.more (Keep.ofBelow (S := fun _ => False) hb (Nat.le_refl _))
  obtain ⟨va, vc, hvv⟩ := ownsRow_shape ho
  subst hvv
  have HA3 := hide (k3.blk HA.out (fun f => f))
  have hB3 := k3.blk HB.out (fun f => f)
  have hs3 : w3.cell? ⟨w.heap.size, 0, none⟩ = some (.int .i64 st) ∧ w3.cell? ⟨w.heap.size, 1, none⟩ = some (.int .i64 tr) ∧ w3.cell? ⟨w.heap.size, 4, none⟩ = some (.slice a n c) := ⟨cell_blk HA3.out 0 rfl, cell_blk HA3.out 1 rfl, cell_blk HA3.out 4 rfl⟩
  have kp := put5_keep w3 (w.heap.size + 1) (.int .i64 st) (.int .i64 tr) (.int .i64 0) (.int .i64 0) (.slice va rs.length vc)
  have HE := hide (put5_blk hB3 (.int .i64 st) (.int .i64 tr) (.int .i64 0) (.int .i64 0) (.slice va rs.length vc))
  have KE : Hid (Keep (fun _ => False) w (put5 w3 (w.heap.size + 1) (.int .i64 st) (.int .i64 tr) (.int .i64 0) (.int .i64 0) (.slice va rs.length vc))) := (K2.out.more k3).trans kp fun i hi => .inr (by omega)
  have hlt := (Array.getElem?_eq_some_iff.1 HB.out).1
  have HO := hide (ownsRow_base (ownsRow_keep ho kp (fun i hi hh => by have := (ho.lt i hh).1; rw [hwz] at this; omega)) (show w.heap.size ≤ w2.drew.heap.size by rw [hwz]; omega))
  have f0 := frozen_blk hB3 0
  have f1 := frozen_blk hB3 1
  have f2 := frozen_blk hB3 2
  have f3 := frozen_blk hB3 3
  have f4 := frozen_blk hB3 4
  have y0 := cell_blk hB3 0 (v := .int .i64 0) rfl
  have y1 := cell_blk hB3 1 (v := .int .i64 0) rfl
  have y2 := cell_blk hB3 2 (v := .int .i64 0) rfl
  have y3 := cell_blk hB3 3 (v := .int .i64 0) rfl
  have y4 := cell_blk hB3 4 (v := .slice none 0 0) rfl
  clear ho hb k3 kd kp hB3 HA HB HA3 K2 CL o0 o1 o4 hlt hwz
  go_simp
  refine hK.out _ _ hs3 (fun hHeld => ?_)
  clear hK K hs3
  try simp only [Act.put, List.setIfInBounds_toArray, List.set_cons_zero, List.set_cons_succ]
  refine wpAnyH_take (i := 7) (oi := _) (v := ?_) rfl (by kernel_rfl) (by kernel_rfl) (by kernel_rfl) (fun _ _ _ h => h) (Or.inl ⟨by rfl, ?_⟩) (by assumption) ?_
  rotate_left
  · (intro w hSw; (try dsimp only at hSw); go_simp)
    all_goals with_reducible rfl
  go_simp
  refine wpAnyH_take (i := 8) (oi := _) (v := ?_) rfl (by kernel_rfl) (by kernel_rfl) (by kernel_rfl) (fun _ _ _ h => h) (Or.inl ⟨by rfl, ?_⟩) (by assumption) ?_
  rotate_left
  · (intro w hSw; (try dsimp only at hSw); go_simp)
    all_goals with_reducible rfl
  go_simp
  refine wpAnyH_done (by kernel_rfl) ?_ _
  simp only [RL.endQ]
  unfold Oper.wp
  go_simp
  go_wp2_with fail
  refine bodyPost_ret (res_ns rfl _ _ (w.heap.size + 1) _ _ _ _ _ rfl HE.out) rfl ?_
  exact ⟨(va, rs.length, vc), rfl, HO.out, KE.out⟩
theorem info_part5 : (Try.prog.info? 76).map (fun i => (i.zero, i.size, i.bytes)) = some (some (.agg #[.int .i64 0, .int .i64 0, .int .i64 0, .int .i64 0, .slice none 0 0]), 5, 56) := by kernel_rfl
/-- a node more behind a row of nodes -/
theorem append_part {w : World} {b : Nat} {v : Value} {l : List (Pt × (Option Addr × Nat × Nat))} (h : w.ownsRow b 76 5 v l.length (flatT l)) (hb : b ≤ w.heap.size) {B : Nat} {x : Pt × (Option Addr × Nat × Nat)} (hq : w.heap[B]? = some (.cells (ptRow x.1 x.2).toArray 76 (0, 0))) (hl : l.length ≤ 1000) (ty : TypeId) :
    ∃ v' w', (Builtin.append_ #[72, 72] ty #[v, .slice (some ⟨B, 0, none⟩) 1 1]).run Try.prog w = .ok v' w' ∧ w'.ownsRow b 76 5 v' (l.length + 1) (flatT (l ++ [x])) ∧ w.grownBy w' v.ownBlock := by
  obtain ⟨i0, hi, hz0, hz1, hz2⟩ := info_parts info_part5
  obtain ⟨v', w', h1, h2, h3, _⟩ := run_append_own (P := Try.prog) w b 72 ty 76 i0 _ 5 56 Try.underlying72 hi hz0 hz1 hz2 rfl (by decide) v l.length _ h ⟨B, 0, none⟩ 1 1 (ptRow x.1 x.2) rfl (fun j u hu => by
      rw [Addr.add_mid, Nat.zero_add]
      exact cell_blk hq j (by simpa using hu)) (fun u hu => by
      simp [ptRow] at hu
      rcases hu with rfl | rfl | rfl | rfl <;> rfl) (by unfold maxLen; omega) (by omega) hb
  exact ⟨v', w', h1, by rw [flatT_snoc]; exact h2, h3⟩
/-- a run that is being copied: b: from where on its memory lies -/
structure Fm (b : Nat) (nm : ByteArray) (dl : Int) (qa : Option Addr) (qc n P : Nat) (st : Int) (va : Option Addr) (vc : Nat) (l : List (Pt × (Option Addr × Nat × Nat))) (ys : List No) (w : World) : Prop where
  blk : w.heap[P]? = some (.cells #[.string nm, .int .i64 dl, .slice qa n qc, .int .i64 st, .slice va l.length vc] 74 (0, 0))
  own : w.ownsRow b 76 5 (.slice va l.length vc) l.length (flatT l)
  res : ∀ x ∈ l, w.ownsRow b 5 1 (.slice x.2.1 x.2.2.1 x.2.2.2) x.1.rs.length (B8 x.1.rs)
  nds : NdX b w (.slice qa n qc) ys
section
variable {b : Nat} {nm : ByteArray} {dl : Int} {qa : Option Addr} {qc n P : Nat} {st : Int} {va na : Option Addr} {vc nc : Nat} {l : List (Pt × (Option Addr × Nat × Nat))} {ys : List No} {w w' : World}
theorem Fm.new (h : Fm b nm dl qa qc n P st va vc l ys w) (k : Keep (fun _ => False) w w') : Fm b nm dl qa qc n P st va vc l ys w' :=
  ⟨k.blk h.blk (fun f => f), ownsRow_new h.own k, fun x hx => ownsRow_new (h.res x hx) k, h.nds.keep k (fun _ _ _ f => f.elim)⟩
/-- the block of a row of nodes -/
theorem part_blk {v : Value} {m : Nat} {cs : List Value} (h : w.ownsRow b 76 5 v m cs) {k : Nat} (hk : v.ownBlock = some k) : ∃ cur, w.heap[k]? = some (.cells cur 76 (0, 0)) := by
  rcases h.2 with ⟨rfl, _⟩ | ⟨g, cap, cur, rfl, _, hg, _⟩
  · simp [Value.ownBlock] at hk
  · simp [Value.ownBlock] at hk
    subst hk
    exact ⟨cur, hg⟩
theorem Fm.grow (h : Fm b nm dl qa qc n P st va vc l ys w) (k : Keep (fun k => (Value.slice va l.length vc).ownBlock = some k) w w') {x : Pt × (Option Addr × Nat × Nat)} (hx : w.ownsRow b 5 1 (.slice x.2.1 x.2.2.1 x.2.2.2) x.1.rs.length (B8 x.1.rs))
    (ho : w'.ownsRow b 76 5 (.slice na (l.length + 1) nc) (l.length + 1) (flatT (l ++ [x]))) : w'.heap[P]? = some (.cells #[.string nm, .int .i64 dl, .slice qa n qc, .int .i64 st, .slice va l.length vc] 74 (0, 0)) ∧ Fm b nm dl qa qc n P st na nc (l ++ [x]) ys (w'.setCell ⟨P, 4, none⟩ (.slice na (l.length + 1) nc)) := by
  have hP : w'.heap[P]? = some (.cells #[.string nm, .int .i64 dl, .slice qa n qc, .int .i64 st, .slice va l.length vc] 74 (0, 0)) := k.blk h.blk (fun e => by
    obtain ⟨cur, hg⟩ := part_blk h.own e
    rw [h.blk] at hg
    injection hg with hg
    injection hg with _ hg
    exact absurd hg (by decide))
  have kc := keep_cell w' P 4 (.slice na (l.length + 1) nc)
  have hll : (l ++ [x]).length = l.length + 1 := by simp
  have hS1 : ∀ (t : TypeId), t ≠ 76 → ∀ i cur, (Value.slice va l.length vc).ownBlock = some i → w.heap[i]? ≠ some (.cells cur t (0, 0)) := fun t ht i cur hi hh => by
    obtain ⟨cur', hg⟩ := part_blk h.own hi
    rw [hh] at hg
    injection hg with hg
    injection hg with _ hg
    exact ht hg
  have hS2 : ∀ (t : TypeId), t ≠ 74 → ∀ i cur, i = P → w'.heap[i]? ≠ some (.cells cur t (0, 0)) := fun t ht i cur hi hh => by
    rw [hi, hP] at hh
    injection hh with hh
    injection hh with _ hh
    exact ht hh.symm
  refine ⟨hP, ⟨?_, ?_, fun y hy => ?_, ?_⟩⟩
  · rw [hll]; exact (set_blk hP 4 _).trans rfl
  · rw [hll]; exact own_keepT ho kc (hS2 _ (by decide))
  · rcases List.mem_append.1 hy with hy | hy
    · exact own_keepT (own_keepT (h.res y hy) k (hS1 _ (by decide))) kc (hS2 _ (by decide))
    · obtain rfl : y = x := by simpa using hy
      exact own_keepT (own_keepT hx k (hS1 _ (by decide))) kc (hS2 _ (by decide))
  · refine (h.nds.keep k fun i cs t hi hb => ?_).keep kc fun i cs t hi hb => ?_
    · exact ⟨fun e => hS1 _ (by decide) i cs hi (e ▸ hb), fun e => hS1 _ (by decide) i cs hi (e ▸ hb)⟩
    · exact ⟨fun e => hS2 _ (by decide) i cs hi (e ▸ hb), fun e => hS2 _ (by decide) i cs hi (e ▸ hb)⟩
/-- the copy is whole -/
theorem Fm.whole (h : Fm b nm dl qa qc n P st va vc l ys w) {ps : List Pt} (hl : l.map Prod.fst = ps) (hn : ps.length = n) (hy : ys.length = n) (h1 : 1 ≤ n) (hv : Val ys) (hz : ∀ y ∈ ys, y.nl.length ≤ 1048576 ∧ y.al.length ≤ 1048576) (hr : ∀ p ∈ ps, (∀ d ∈ p.rs, d < 256) ∧ p.rs.length ≤ 1000) :
    ∃ G, b ≤ G ∧ RunAt (fun k => k = P ∨ k = G ∨ k < b) w P G nm dl (qa, n, qc) ys ⟨st, ps⟩ := by
  have hll : l.length = n := by rw [← hn, ← hl]; simp
  obtain ⟨G, cap, cur, hv1, hGb, hG, _⟩ := h.own.2.resolve_left (fun hh => by omega)
  injection hv1 with hv1 _ hv3
  subst hv1 hv3
  have hPG : P ≠ G := fun e => by
    have hh := h.blk
    rw [e, hG] at hh
    injection hh with hh
    injection hh with _ hh
    exact absurd hh (by decide)
  have h64 : ys.length ≤ 64 := hv.1
  obtain ⟨hrdp, _⟩ := h.nds.rd (by omega) hz
  have hUt : ∀ (t : TypeId), t ≠ 74 → t ≠ 76 → ∀ k cur', (k = P ∨ k = G ∨ k < b) → k < b ∨ w.heap[k]? ≠ some (.cells cur' t (0, 0)) := fun t ht1 ht2 k cur' hk => by
    rcases hk with e | e | e
    · refine .inr fun hh => ?_
      rw [e, h.blk] at hh
      injection hh with hh
      injection hh with _ hh
      exact ht1 hh.symm
    · refine .inr fun hh => ?_
      rw [e, hG] at hh
      injection hh with hh
      injection hh with _ hh
      exact ht2 hh.symm
    · exact .inl e
  refine ⟨G, hGb, ⟨_, by rw [hy, ← hll]; simpa [hll] using h.blk⟩, ⟨cur, hG⟩, fun j p hj => ?_, hrdp, ⟨own_off2 (s := (qa, n, qc)) h.nds.1 (hUt _ (by decide) (by decide)), fun y hy => ⟨own_off2 (h.nds.2 y hy).1 (hUt _ (by decide) (by decide)), own_off2 (h.nds.2 y hy).2 (hUt _ (by decide) (by decide))⟩⟩, by rw [hy]; exact hn, hPG, .inl rfl, .inr (.inl rfl), hv, by omega⟩
  have hj' : (l.map Prod.fst)[j]? = some p := by rw [hl]; exact hj
  rw [List.getElem?_map] at hj'
  obtain ⟨x, hx, rfl⟩ := Option.map_eq_some_iff.1 hj'
  have hxm := List.mem_of_getElem? hx
  have hpm : x.1 ∈ ps := by rw [← hl]; exact List.mem_map_of_mem hxm
  obtain ⟨a', c', e', hrd, hcp, _⟩ := ownsRow_rdB (h.res x hxm) (hr _ hpm).1 (by have := (hr _ hpm).2; omega)
  injection e' with e1 e2 e3
  refine ⟨x.2, fun jj u hu => ?_, by rw [e1, e2]; exact hrd, own_off2 (h.res x hxm) (hUt _ (by decide) (by decide)), by rw [e1, e3]; exact hcp⟩
  have := h.own.cells (g := G) rfl (j * 5 + jj) u (flatT_get l j jj x u hx hu)
  rw [Addr.add_mid, Nat.zero_add] at this
  exact this
end
end Rn
end Go.Proofs.Ytiackejbpcjmeaa
