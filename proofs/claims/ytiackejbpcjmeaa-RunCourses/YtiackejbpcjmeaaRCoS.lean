/- RunCourses: the laws' pick; a name as bytes. -/
import Derived.Test.YtiackejbpcjmeaaRCoM
import Derived.Test.YtiackejbpcjmeaaRFrm
import Derived.Test.YtiackejbpcjmeaaRDoe
import Derived.Test.YtiackejbpcjmeaaRNw2
import Derived.Test.YtiackejbpcjmeaaRThr
import Derived.Lib.ConvBytes
namespace Go.Proofs.Ytiackejbpcjmeaa
namespace Rn
open Go.RowKit Gr

/-- what pick gives -/
def pkI (c n : Int) : Int := (if c < 0 then -(c + 1) else c) % n
theorem pkI_in {c n : Int} (hn : 1 ≤ n) : 0 ≤ pkI c n ∧ pkI c n < n := by
  unfold pkI
  exact ⟨Int.emod_nonneg _ (by omega), Int.emod_lt_of_pos _ (by omega)⟩
theorem pick_val (c : Int) (n : Int) (h1 : -9223372036854775808 ≤ c) (h2 : c ≤ 9223372036854775807) (hn : 1 ≤ n) (hn2 : n ≤ 1000) (w : World) :
    Calls Try.prog 9 #[.int .i64 c, .int .i64 n] w fun e w' => e = .returned (.int .i64 (pkI c n)) ∧ w' = w := by
  by_cases hc : c < 0
  · go_enter Try.func9, Try.ntmps9
    go_wp2_with fail
    go_ret
    have e : -(c + 1).tmod n = pkI c n := by unfold pkI; rw [if_pos hc, ← Int.neg_tmod, Int.tmod_eq_emod_of_nonneg (by omega)]
    exact ⟨by rw [← e]; rfl, rfl⟩
  · go_enter Try.func9, Try.ntmps9
    go_wp2_with fail
    go_ret
    have e : c % n = pkI c n := by unfold pkI; rw [if_neg (by omega)]
    exact ⟨by rw [← e]; rfl, rfl⟩
/-- a name's bytes -/
def nbs (s : ByteArray) : List Nat := s.data.toList.map UInt8.toNat
theorem nbs_len (s : ByteArray) : (nbs s).length = s.size := by unfold nbs; rw [List.length_map, Array.length_toList]; rfl
theorem conv_name (w : World) (s : ByteArray) (hs : s.size ≤ 40) : ∃ c w', (convert 9 38 (.string s)).run Try.prog w = .ok (.slice (some ⟨w.heap.size, 0, none⟩) s.size c) w' ∧ Rd w' (some ⟨w.heap.size, 0, none⟩) s.size (nbs s) ∧ Keep (fun _ => False) w w' := by
  have hl : (nbs s).length = s.size := nbs_len s
  refine ⟨_, _, Lib.run_convert_string_bytes w _ _ _ s Try.underlying9 Try.underlying38 Try.underlying5, ⟨hl.symm, by omega, fun d hd => ?_, .inr ⟨w.heap.size, 0, rfl, fun i hi => ?_⟩⟩, rfl, rfl, rfl, by rw [Lib.bytesWorld_size]; omega, fun j hj _ => Lib.bytesWorld_at_old w _ s j hj⟩
  · obtain ⟨b, _, rfl⟩ := List.mem_map.1 hd
    exact b.toNat_lt
  · rw [Nat.zero_add, Lib.bytesWorld_cell w _ s i hi]
    have : (nbs s).getD i 0 = (s.data.toList.getD i 0).toNat := by
      unfold nbs
      rw [List.getD_eq_getElem?_getD, List.getElem?_map, List.getD_eq_getElem?_getD]
      cases s.data.toList[i]? <;> rfl
    rw [this]
theorem results_tmp4 {fn : Func} {t u v x : Tmp} (h : fn.results = #[.tmp t, .tmp u, .tmp v, .tmp x]) (tmps : Array Value) (P : Program) (w : World) :
    (results fn tmps).run P w = .ok (.tuple #[tmps.getD t undef, tmps.getD u undef, tmps.getD v undef, tmps.getD x undef]) w := by
  simp [results, h]
/-- the nodes that can go on, of the first so many -/
def canB (s : Int) : Bool := decide (s = 2) || decide (s = 3) || decide (s = 4)
def canL (ps : List Pt) (j : Nat) : List Nat := (List.range j).filter fun i => canB (sAt (sts ps) (i : Nat))
theorem canL_succ {ps : List Pt} {j : Nat} {p : Pt} (hp : ps[j]? = some p) : canL ps (j + 1) = canL ps j ++ (if canB p.st then [j] else []) := by
  unfold canL
  rw [List.range_succ, List.filter_append]
  congr 1
  simp only [List.filter_cons, List.filter_nil, sAt_sts hp]
theorem canL_len (ps : List Pt) (j : Nat) : (canL ps j).length ≤ j := by
  unfold canL
  exact Nat.le_trans (List.length_filter_le _ _) (by simp)
theorem canL_at {ps : List Pt} {j k i : Nat} (hj : j ≤ ps.length) (h : (canL ps j)[k]? = some i) : ∃ p, ps[i]? = some p ∧ (p.st = 2 ∨ p.st = 3 ∨ p.st = 4) := by
  have hm := List.mem_of_getElem? h
  unfold canL at hm
  rw [List.mem_filter, List.mem_range] at hm
  have hp : ps[i]? = some (ps[i]'(by omega)) := List.getElem?_eq_getElem _
  refine ⟨_, hp, ?_⟩
  have := hm.2
  rw [sAt_sts hp] at this
  unfold canB at this
  simp at this
  omega
theorem canL_ne {ps : List Pt} {i : Nat} {p : Pt} (hp : ps[i]? = some p) (hs : p.st = 2 ∨ p.st = 3 ∨ p.st = 4) : 1 ≤ (canL ps ps.length).length := by
  have hi := (List.getElem?_eq_some_iff.1 hp).1
  have : i ∈ canL ps ps.length := by
    unfold canL
    rw [List.mem_filter, List.mem_range]
    refine ⟨hi, ?_⟩
    rw [sAt_sts hp]
    unfold canB
    simp
    omega
  exact List.length_pos_of_mem this
/-- what is missed of a node -/
def msF (xs : List No) (z : List Int) (i : Nat) : Int := match z[i]?, xs[i]? with
  | some c, some x => pkI c (x.q.bu + 1)
  | _, _ => 0
def buF (xs : List No) (i : Nat) : Int := match xs[i]? with
  | some x => x.q.bu
  | none => 0
def nmF (xs : List No) (i : Nat) : List Nat := match xs[i]? with
  | some x => nbs x.q.nm
  | none => []
theorem msF_at {xs : List No} {z : List Int} {i : Nat} {c : Int} {x : No} (hz : z[i]? = some c) (hx : xs[i]? = some x) : msF xs z i = pkI c (x.q.bu + 1) := by unfold msF; rw [hz, hx]
theorem msF_none {xs : List No} {z : List Int} {i : Nat} (hz : z.length ≤ i) : msF xs z i = 0 := by unfold msF; rw [List.getElem?_eq_none hz]
theorem msF_in {xs : List No} {z : List Int} (hb : ∀ x ∈ xs, 1 ≤ x.q.bu ∧ x.q.bu ≤ 100) : (∀ i, i < (xs.map nx).length → 1 ≤ buF xs i ∧ 0 ≤ msF xs z i) ∧ ∀ (i : Nat) (x : Nx), (xs.map nx)[i]? = some x → x.bu = buF xs i ∧ msF xs z i ≤ buF xs i := by
  have key : ∀ (i : Nat) (x : No), xs[i]? = some x → buF xs i = x.q.bu ∧ 0 ≤ msF xs z i ∧ msF xs z i ≤ x.q.bu := fun i x hx => by
    have h1 := hb x (List.mem_of_getElem? hx)
    refine ⟨by unfold buF; rw [hx], ?_⟩
    by_cases hi : i < z.length
    · rw [msF_at (List.getElem?_eq_getElem hi) hx]
      have := pkI_in (c := z[i]) (n := x.q.bu + 1) (by omega)
      omega
    · rw [msF_none (by omega)]; omega
  refine ⟨fun i hi => ?_, fun i x hx => ?_⟩
  · rw [List.length_map] at hi
    have hx : xs[i]? = some (xs[i]'hi) := List.getElem?_eq_getElem _
    obtain ⟨k1, k2, _⟩ := key i _ hx
    have := hb _ (List.mem_of_getElem? hx)
    omega
  · rw [List.getElem?_map] at hx
    obtain ⟨y, hy, rfl⟩ := Option.map_eq_some_iff.1 hx
    obtain ⟨k1, _, k3⟩ := key i y hy
    exact ⟨k1.symm, by omega⟩
theorem nm_in {nm : ByteArray} {dl : Int} {xs : List No} (h : (chk nm dl xs).2 = 0) : ∀ x ∈ xs, x.q.nm.size ≤ 40 := fun x hx => by
  obtain ⟨k, hk⟩ := List.getElem?_of_mem hx
  have hn := (Gr.cN_ok (Gr.chk_ok h).2.1 k x hk).1
  unfold isNm wI at hn
  simp at hn
  omega
theorem nmF_in {nm : ByteArray} {dl : Int} {xs : List No} (h : (chk nm dl xs).2 = 0) (i : Nat) : (nmF xs i).length ≤ 64 ∧ ∀ d ∈ nmF xs i, d < 256 := by
  unfold nmF
  split
  · rename_i x hx
    refine ⟨?_, fun d hd => ?_⟩
    · have := nm_in h x (List.mem_of_getElem? hx)
      rw [nbs_len]
      omega
    · obtain ⟨b, _, rfl⟩ := List.mem_map.1 hd
      exact b.toNat_lt
  · exact ⟨by simp, fun d hd => by cases hd⟩
/-- the budgets of the first so many -/
def sumN (xs : List No) (j : Nat) : Int := ((xs.take j).map fun x => x.q.bu).sum
theorem sumN_succ {xs : List No} {j : Nat} {x : No} (hx : xs[j]? = some x) : sumN xs (j + 1) = sumN xs j + x.q.bu := by
  unfold sumN
  rw [List.take_add_one, hx]
  simp
theorem sumN_all (xs : List No) : sumN xs xs.length = sumB (xs.map nx) := by
  unfold sumN sumB
  rw [List.take_length, List.map_map]
  rfl
theorem sumN_in {xs : List No} (hb : ∀ x ∈ xs, 1 ≤ x.q.bu ∧ x.q.bu ≤ 100) : ∀ j, j ≤ xs.length → 0 ≤ sumN xs j ∧ sumN xs j ≤ 100 * j
  | 0, _ => by simp [sumN]
  | j + 1, h => by
    have h1 := sumN_in hb j (by omega)
    have hx : xs[j]? = some (xs[j]'(by omega)) := List.getElem?_eq_getElem _
    rw [sumN_succ hx]
    have := hb _ (List.mem_of_getElem? hx)
    omega
/-- the run of a course -/
structure Sg (w1 : World) (p : Rp) (R : Rs) (w : World) : Prop where
  run : RunAt (fun k => k = p.P ∨ k = p.G) w p.P p.G p.nm p.dl p.s p.xs R
  bel : Below w1.heap.size w1 w
  hi : w1.heap.size ≤ p.P ∧ w1.heap.size ≤ p.G
theorem Sg.new {w1 w w' : World} {p : Rp} {R : Rs} (h : Sg w1 p R w) (k : Keep (fun _ => False) w w') : Sg w1 p R w' := ⟨h.run.new k, h.bel.trans (k.below h.bel.size fun _ f => f.elim), h.hi⟩
theorem Sg.step {w1 w w' : World} {p : Rp} {R X : Rs} (h : Sg w1 p R w) (k : Keep (fun k => k = p.P ∨ k = p.G) w w') (hr : RunAt (fun k => k = p.P ∨ k = p.G) w' p.P p.G p.nm p.dl p.s p.xs X) : Sg w1 p X w' := ⟨hr, h.bel.trans (k.below h.bel.size fun i hi => by have := h.hi; omega), h.hi⟩
theorem Sg.lt {w1 w : World} {p : Rp} {R : Rs} (h : Sg w1 p R w) : ∀ k, (k = p.P ∨ k = p.G) → k < w.heap.size := fun k hk => by
  obtain ⟨_, h1⟩ := h.run.blk
  obtain ⟨_, h2⟩ := h.run.prt
  have := (Array.getElem?_eq_some_iff.1 h1).1
  have := (Array.getElem?_eq_some_iff.1 h2).1
  omega
/-- a run that is new -/
def MadC (xs : List No) (w : World) (e : Ending) (w' : World) : Prop :=
  ∃ (p : Rp) (d sk r : Option Addr × Nat × Nat), e = .returned (.tuple #[.pointer (some ⟨p.P, 0, none⟩), .agg #[.slice d.1 d.2.1 d.2.2, .slice sk.1 sk.2.1 sk.2.2, .slice r.1 r.2.1 r.2.2, .int .i64 (newR (xs.map nx)).2.stt], .int .i64 0]) ∧ w.heap.size ≤ p.P ∧ w.heap.size ≤ p.G ∧ p.xs.map nx = xs.map nx ∧ p.xs.length = xs.length ∧ RunAt (fun k => k = p.P ∨ k = p.G) w' p.P p.G p.nm p.dl p.s p.xs (newR (xs.map nx)).2 ∧ Below w.heap.size w w'
theorem made_c {nm : ByteArray} {dl : Int} {xs ys0 : List No} {s : Option Addr × Nat × Nat} {w w' : World} {e : Ending} (c : Cp nm dl xs ys0 s w) (hck : (chk nm dl xs).2 = 0) (h : NewEnd nm dl ys0 w e w') : MadC xs w e w' := by
  obtain ⟨hb, hE⟩ := h
  rcases hE with ⟨hn, rfl⟩ | ⟨_, P, G, sp, ys, v, rfl, hPs, hGs, hye, hch, hR⟩
  · exact absurd (by rw [c.chk]; exact hck) hn
  · have hyx := hye.trans c.er
    rw [c.er |> map_nx] at hch hR
    obtain ⟨d, sk, r, rfl, _, _, _⟩ := hch
    exact ⟨⟨P, G, nm, dl, sp, ys⟩, d, sk, r, rfl, hPs, hGs, map_nx hyx, (by have := congrArg List.length hyx; simpa using this), hR, hb⟩
theorem rdz_atC {B : Nat} {w : World} {s : Option Addr × Nat × Nat} {z : List Int} (h : RdZ B w s z) {i : Nat} (hi : i < s.2.1) : ∃ g off c, s.1 = some ⟨g, off, none⟩ ∧ z[i]? = some c ∧ w.cell? ⟨g, off + i, none⟩ = some (.int .i64 c) := by
  obtain ⟨h1, _, h3⟩ := h
  obtain ⟨g, off, e, _, h3⟩ := h3.resolve_left (by omega)
  have hz : z[i]? = some (z[i]'(by omega)) := List.getElem?_eq_getElem _
  exact ⟨g, off, _, e, hz, h3 i _ hz⟩
/-- what a course leaves and tells -/
def CoE (xs : List No) (z : List Int) (w : World) (e : Ending) (w' : World) : Prop :=
  ∃ (v : Value) (R : Rs) (step lea : Int) (b : Nat), e = .returned (.tuple #[v, .int .i64 R.stt, .int .i64 lea, .bool true]) ∧ TdAt b w' v R.ps ∧ Cs (xs.map nx) (buF xs) (msF xs z) (nmF xs) step lea R ∧ R.stt ≠ 1 ∧ Below w.heap.size w w'
/-- the row of those that can go on -/
structure Cn (w2 : World) (ps : List Pt) (j : Nat) (ca : Option Addr) (cc : Nat) (w : World) : Prop where
  own : w.ownsRow w2.heap.size 3 1 (.slice ca (canL ps j).length cc) (canL ps j).length (iv (canL ps j))
  kp : Keep (fun k => w2.heap.size ≤ k) w2 w
theorem can_same {w2 w : World} {ps : List Pt} {i : Nat} {ca : Option Addr} {cc : Nat} (h : canL ps (i + 1) = canL ps i) (c : Cn w2 ps i ca cc w) : Cn w2 ps (i + 1) ca cc w := by
  obtain ⟨h1, h2⟩ := c
  exact ⟨by rw [h]; exact h1, h2⟩
theorem can_grow {w2 w w' : World} {ps : List Pt} {i : Nat} {ca na : Option Addr} {cc nc : Nat} (ho : w.ownsRow w2.heap.size 3 1 (.slice ca (canL ps i).length cc) (canL ps i).length (iv (canL ps i))) (k : Keep (fun k => w2.heap.size ≤ k) w2 w) (h : canL ps (i + 1) = canL ps i ++ [i])
    (ho' : w'.ownsRow w2.heap.size 3 1 (.slice na ((canL ps i).length + 1) nc) ((canL ps i).length + 1) (iv (canL ps i) ++ [.int .i64 (i : Nat)])) (k' : Keep (fun k => (Value.slice ca (canL ps i).length cc).ownBlock = some k) w w') : Cn w2 ps (i + 1) na nc w' := by
  have hl : (canL ps (i + 1)).length = (canL ps i).length + 1 := by rw [h]; simp
  exact ⟨by rw [hl, h, iv_snoc]; exact ho', k.more (k'.mono fun j hj => (ho.lt j hj).1)⟩
end Rn
end Go.Proofs.Ytiackejbpcjmeaa
