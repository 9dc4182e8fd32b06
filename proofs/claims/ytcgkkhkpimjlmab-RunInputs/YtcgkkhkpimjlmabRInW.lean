/- RunInputs: the walk. -/
import Derived.Test.YtcgkkhkpimjlmabRFrm
import Derived.Test.YtcgkkhkpimjlmabRInM
import Derived.Test.YtcgkkhkpimjlmabRInp
import Derived.Test.YtcgkkhkpimjlmabRDoe
import Derived.Test.YtcgkkhkpimjlmabGRfA
import Derived.Laws.MakeOwn
import Derived.Deep.CutRange
import Derived.Deep.CutBlock
import Derived.Deep.QuietTactic
namespace Go.Proofs.Ytcgkkhkpimjlmab
namespace Rn
open Go.RowKit Gr

theorem info_strI : (Try.prog.info? 9).map (fun i => (i.zero, i.size, i.bytes)) = some (some (.string ⟨#[]⟩), 1, 16) := by kernel_rfl
theorem made_strs (u : World) (n : Nat) (hn : n ≤ 64) : (Instr.makeSlice 37 (.int .i64 (n : Nat)) (.int .i64 (n : Nat))).run Try.prog u = .ok (.slice (some ⟨u.heap.size, 0, none⟩) n n) (u.alloc (.cells (madeCells #[.string ⟨#[]⟩] n) 9)) := by
  obtain ⟨i0, hi, hz0, hz1, hz2⟩ := info_parts info_strI
  have h := run_make (P := Try.prog) (w := u) 37 9 i0 (.string ⟨#[]⟩) Try.underlying37 hi hz0 .i64 .i64 (n : Int) (n : Int) (by omega) (Int.le_refl _) (by rw [hz2]; omega) (by omega)
  simpa [hz1, Value.cells] using h
/-- a row of texts in memory -/
def SdAt (W : World) (B : Nat) (zs : List ByteArray) : Prop := ∃ cs : Array Value, W.heap[B]? = some (.cells cs 9 (0, 0)) ∧ cs.size = zs.length ∧ ∀ (j : Nat) (z : ByteArray), zs[j]? = some z → cs[j]? = some (.string z)
theorem SdAt.keep {W W' : World} {B : Nat} {zs : List ByteArray} (h : SdAt W B zs) {S : Nat → Prop} (hk : Keep S W W') (hS : ¬ S B) : SdAt W' B zs := by
  obtain ⟨cs, h1, h2⟩ := h
  exact ⟨cs, hk.blk h1 hS, h2⟩
theorem SdAt.set {W : World} {B : Nat} {zs : List ByteArray} (h : SdAt W B zs) (k : Nat) (z : ByteArray) : SdAt (W.setCell ⟨B, k, none⟩ (.string z)) B (zs.set k z) := by
  obtain ⟨cs, h1, h2, h3⟩ := h
  refine ⟨_, set_blk h1 k _, by simp [h2], fun j y hj => ?_⟩
  rw [Array.getElem?_setIfInBounds]
  rw [List.getElem?_set] at hj
  by_cases e : k = j
  · subst e
    rw [if_pos rfl] at hj ⊢
    split at hj
    · rename_i hl
      rw [if_pos (by omega)]
      obtain rfl := Option.some.inj hj
      rfl
    · cases hj
  · rw [if_neg e] at hj ⊢
    exact h3 j y hj
theorem sd_new (w : World) (n : Nat) : SdAt (w.alloc (.cells (madeCells #[.string ⟨#[]⟩] n) 9)) w.heap.size (List.replicate n ⟨#[]⟩) :=
  ⟨_, heap_alloc_new _ _, by simp [madeCells], fun j z hj => by
    have hl := (List.getElem?_eq_some_iff.1 hj).1
    have := List.eq_of_mem_replicate (List.mem_of_getElem? hj)
    subst this
    simp at hl
    simp [madeCells, hl, Nat.mod_one]⟩
theorem SdAt.at {W : World} {B : Nat} {zs : List ByteArray} (h : SdAt W B zs) {j : Nat} {z : ByteArray} (hj : zs[j]? = some z) : W.cell? ⟨B, j, none⟩ = some (.string z) ∧ W.frozen? ⟨B, j, none⟩ = false := by
  obtain ⟨cs, h1, _, h3⟩ := h
  exact ⟨cell_blk h1 j (h3 j z hj), frozen_blk h1 j⟩
/-- the run, and what was said -/
structure Fs (w1 : World) (P G S : Nat) (nm : ByteArray) (dl : Int) (s : Option Addr × Nat × Nat) (xs : List No) (R : Rs) (zs : List ByteArray) (w : World) : Prop where
  run : RunAt (fun k => k = P ∨ k = G ∨ k = S) w P G nm dl s xs R
  sd : SdAt w S zs
  bel : Below w1.heap.size w1 w
  hi : w1.heap.size ≤ P ∧ w1.heap.size ≤ G ∧ w1.heap.size ≤ S
  ne : S ≠ P ∧ S ≠ G
  lt : ∀ k, (k = P ∨ k = G ∨ k = S) → k < w.heap.size
section
variable {w1 w w' : World} {P G S : Nat} {nm : ByteArray} {dl : Int} {s : Option Addr × Nat × Nat} {xs : List No} {R R' : Rs} {zs : List ByteArray}
theorem Fs.new (h : Fs w1 P G S nm dl s xs R zs w) (k : Keep (fun _ => False) w w') : Fs w1 P G S nm dl s xs R zs w' :=
  ⟨h.run.new k, h.sd.keep k (fun f => f), h.bel.trans (k.below h.bel.size fun _ f => f.elim), h.hi, h.ne, fun i hi => Nat.lt_of_lt_of_le (h.lt i hi) k.size⟩
theorem Fs.step (h : Fs w1 P G S nm dl s xs R zs w) (k : Keep (fun k => k = P ∨ k = G) w w') (hr : RunAt (fun k => k = P ∨ k = G ∨ k = S) w' P G nm dl s xs R') : Fs w1 P G S nm dl s xs R' zs w' :=
  ⟨hr, h.sd.keep k (fun f => by have := h.ne; omega), h.bel.trans (k.below h.bel.size fun i hi => by have := h.hi; omega), h.hi, h.ne, fun i hi => Nat.lt_of_lt_of_le (h.lt i hi) k.size⟩
theorem Fs.put (h : Fs w1 P G S nm dl s xs R zs w) (j : Nat) (z : ByteArray) : Fs w1 P G S nm dl s xs R (zs.set j z) (w.setCell ⟨S, j, none⟩ (.string z)) := by
  have k := keep_cell w S j (.string z)
  exact ⟨h.run.keep k (fun i hi => .inr ⟨.inr (.inr hi), fun e => h.ne.1 (hi ▸ e), fun e => h.ne.2 (hi ▸ e)⟩), h.sd.set j z, h.bel.trans (k.below h.bel.size fun i hi => by have := h.hi; omega), h.hi, h.ne, fun i hi => Nat.lt_of_lt_of_le (h.lt i hi) k.size⟩
end
theorem ref_two {R : Rs} {i : Nat} {p : Pt} (hp : R.ps[i]? = some p) : refI R (i : Int) [2, 3] = if p.st = 2 ∨ p.st = 3 then 0 else 131 := by
  unfold refI
  rw [has_in (List.getElem?_eq_some_iff.1 hp).1, if_pos rfl, sAt_sts hp]
  by_cases h : p.st = 2 ∨ p.st = 3
  · rw [if_pos h, if_pos (by simpa using h)]
  · rw [if_neg h, if_neg (by simpa using h)]
/-- what a node that may go on is handed, one by one -/
theorem rdy_elem {xs : List No} {R : Rs} {zs : List ByteArray} (h : May (xs.map nx) R) (hS : Said R zs) (hv : Val xs) {i : Nat} {x : No} {p : Pt} (hx : xs[i]? = some x) (hp : R.ps[i]? = some p) (hs : p.st = 2 ∨ p.st = 3) {k : Nat} {e : Int} (hk : x.nl[k]? = some e) : ∃ en : Nat, e = (en : Int) ∧ en < xs.length ∧ zs[en]? = some (str (rsAt R.ps e)) := by
  have he := List.mem_of_getElem? hk
  obtain ⟨h0, h1⟩ := hv.2 x (List.mem_of_getElem? hx) e (List.mem_append.2 (.inl he))
  obtain ⟨q, hq, h5⟩ := done_at (h.needs (nxs_at hx) hp hs e he)
  refine ⟨e.toNat, by omega, by omega, ?_⟩
  rw [hS _ q hq h5]
  unfold rsAt
  rw [hq]
  rfl
theorem rsAt_ok {ps : List Pt} (h : ∀ p ∈ ps, (∀ d ∈ p.rs, d < 256) ∧ p.rs.length ≤ 1000) (e : Int) : (∀ d ∈ rsAt ps e, d < 256) ∧ (rsAt ps e).length ≤ 1000 := by
  unfold rsAt
  cases c : ps[e.toNat]? with
  | none => simp
  | some p => simpa using h p (List.mem_of_getElem? c)
theorem InI.kp {w wr : World} {v : Value} {ls : List (List Nat)} (h : InI w wr v ls) : Keep (fun _ => False) w wr := by obtain ⟨_, h⟩ := h; exact h.kp
theorem res_conv {w : World} {b : Nat} {v : Value} {l : List Nat} (ho : w.ownsRow b 5 1 v l.length (B8 l)) (hb : (∀ d ∈ l, d < 256) ∧ l.length ≤ 1000) : ∃ a c, v = .slice a l.length c ∧ ∀ W, Keep (fun _ => False) w W → ∀ n, (convert 38 9 (.slice a l.length c)).run Try.prog (W.drewN n) = .ok (.string (str l)) (W.drewN n) := by
  obtain ⟨a, c, rfl, hr, _⟩ := ownsRow_rdB ho hb.1 (by omega)
  exact ⟨a, c, rfl, fun W k n => conv_rd (hr.stay (S := fun _ => False) (k.more (keep_drewN W n)) fun _ _ _ f => f) c⟩
theorem conv_keep {w W : World} {m : Option Addr × Nat × Nat} {l : List Nat} (h : Rd w m.1 m.2.1 l) (k : Keep (fun _ => False) w W) (c : Nat) : ∀ n, (convert 38 9 (.slice m.1 m.2.1 c)).run Try.prog (W.drewN n) = .ok (.string (str l)) (W.drewN n) := fun n => conv_rd (h.stay (S := fun _ => False) (k.more (keep_drewN W n)) fun _ _ _ f => f) c
theorem need_cell {W : World} {s : Option Addr × Nat × Nat} {xs : List No} (h : RdP W.heap.size W s xs) {j k : Nat} {x : No} {e : Int} (hx : xs[j]? = some x) (he : x.nl[k]? = some e) : ∃ g off, W.cell? ⟨g, off + j * 10 + 8, none⟩ = some (.slice x.q.ne.1 x.nl.length x.q.ne.2.2) ∧ ∃ g2 o2, s.1 = some ⟨g, off, none⟩ ∧ x.q.ne.1 = some ⟨g2, o2, none⟩ ∧ W.cell? ⟨g2, o2 + k, none⟩ = some (.int .i64 e) := by
  obtain ⟨g, off, x', ha, _, hx', hN, hz1, _⟩ := h.at (i := j) (by rw [h.1]; exact (List.getElem?_eq_some_iff.1 hx).1)
  obtain rfl : x = x' := Option.some.inj (hx.symm.trans hx')
  have n8 := hN.all.2.2.2.2.2.2.2.2.1
  have hzl : x.q.ne.2.1 = x.nl.length := hz1.1
  obtain ⟨g2, o2, e2, _, h2⟩ := hz1.2.2.resolve_left (by have := (List.getElem?_eq_some_iff.1 he).1; omega)
  rw [hzl] at n8
  exact ⟨g, off, n8, g2, o2, ha, e2, h2 k e he⟩
/-- the node of the plan's copy -/
theorem er_at {xs ys : List No} (h : ys.map er = xs.map er) {i : Nat} {x : No} (hx : xs[i]? = some x) : ∃ y, ys[i]? = some y ∧ y.nl = x.nl := by
  have h1 : (ys.map er)[i]? = (xs.map er)[i]? := by rw [h]
  rw [List.getElem?_map, List.getElem?_map, hx] at h1
  cases hy : ys[i]? with
  | none => rw [hy] at h1; cases h1
  | some y =>
    rw [hy] at h1
    have e : er y = er x := Option.some.inj h1
    exact ⟨y, rfl, (show (er y).nl = (er x).nl from congrArg No.nl e)⟩
set_option maxRecDepth 100000 in
set_option maxHeartbeats 40000000 in
theorem inputs_walk (nm : ByteArray) (dl : Int) (s t : Option Addr × Nat × Nat) (xs : List No) (qs : List Sp) (w : World) (hP : RdP w.heap.size w s xs) (hs : Sz nm xs) (hc : CapP xs) (hq : RdO w t qs) :
    Calls Try.prog 3 #[.agg #[.string nm, .int .i64 dl, .slice s.1 s.2.1 s.2.2], .slice t.1 t.2.1 t.2.2] w fun e w' => e = .returned (.bool true) ∧ Below w.heap.size w w' := by
  obtain ⟨a, n, c⟩ := s
  obtain ⟨ta, tn, tc⟩ := t
  have HN : Hid (n = xs.length) := hP.1
  have k1 := Keep.alloc (fun _ => False) w (.cells #[.string nm, .int .i64 dl, .slice a n c] 24)
  have b1 := heap_alloc_new w (.cells #[.string nm, .int .i64 dl, .slice a n c] 24)
  have htn2 : tn ≤ 140737488355328 := hq.2.1
  have HM : Hid (∀ W, Below (w.alloc (.cells #[.string nm, .int .i64 dl, .slice a n c] 24)).heap.size (w.alloc (.cells #[.string nm, .int .i64 dl, .slice a n c] 24)) W → (W.cell? ⟨w.heap.size, 0, none⟩ = some (.string nm) ∧ W.cell? ⟨w.heap.size, 1, none⟩ = some (.int .i64 dl) ∧ W.cell? ⟨w.heap.size, 2, none⟩ = some (.slice a n c)) ∧ RdP W.heap.size W (a, n, c) xs ∧ RdO W (ta, tn, tc) qs ∧ Below w.heap.size w W) := fun W k => by
    have k2 : Keep (fun _ => False) (w.alloc (.cells #[.string nm, .int .i64 dl, .slice a n c] 24)) W := Keep.ofBelow k (Nat.le_refl _)
    have kb : Below w.heap.size w W := (k1.more k2).below (Nat.le_refl _) fun _ f => f.elim
    exact ⟨⟨cell_blk (k2.blk b1 (fun f => f)) 0 rfl, cell_blk (k2.blk b1 (fun f => f)) 1 rfl, cell_blk (k2.blk b1 (fun f => f)) 2 rfl⟩, (hP.new (k1.more k2)).mono (k1.more k2).size, hq.below kb, kb⟩
  have HS := hide hs
  have HC := hide hc
  clear hP hs hc hq k1 b1
  go_enter Try.func3, Try.ntmps3
  go_upto_region 1 with fail
  obtain ⟨H, hH⟩ : ∃ H, H = w.heap.size := ⟨_, rfl⟩
  generalize w.alloc (.cells #[.string nm, .int .i64 dl, .slice a n c] 24) = w1 at *
  simp only [← hH] at HM ⊢
  have HHE := hide hH
  clear hH
  go_wp2_with fail
  go_at_call 5
  refine (awake_any w1).mono ?_
  rintro e w2 ⟨rfl, b2⟩
  have B2 := hide b2
  obtain ⟨⟨c0, c1, c2⟩, hp, _, _⟩ := HM.out w2 b2
  have FT := hide (fits_any nm dl (a, n, c) xs w2 hp HS.out)
  clear hp b2
  go_wp2_with fail
  go_at_call 6
  refine FT.out.mono ?_
  rintro e w3 ⟨hE, k3⟩
  have B3 : Hid (Below w1.heap.size w1 w3) := B2.out.trans (k3.below B2.out.size fun _ f => f.elim)
  obtain ⟨⟨c0, c1, c2⟩, _, _, kw⟩ := HM.out w3 B3.out
  have KW := hide kw
  clear kw k3 FT B2
  rcases hE with rfl | ⟨rfl, hsm⟩
  · go_wp2_with fail
    go_ret
    exact ⟨rfl, by rw [← HHE.out]; exact KW.out⟩
  by_cases hck : (chk nm dl xs).2 = 0
  case neg =>
    rw [decide_eq_false hck]
    clear hck
    go_wp2_with fail
    go_ret
    exact ⟨rfl, by rw [← HHE.out]; exact KW.out⟩
  case pos =>
    rw [decide_eq_true hck]
    have hz : ∀ x ∈ xs, x.nl.length ≤ 20000 ∧ x.al.length ≤ 20000 := fun x hx => by have := edges_mem hx; omega
    have HZ := hide hz
    have hxl : xs.length ≤ 20000 := by omega
    have PL := hide (fun (W : World) (k : Below w1.heap.size w1 W) => planned_any nm dl (a, n, c) xs W (HM.out W k).2.1 HC.out hxl hz)
    have CP := hide (fun (W : World) (B : Nat) (v : Option Addr) (m d : Nat) (ys : List No) (h : NdX B W (.slice v m d) ys) (he : ys.map er = xs.map er) => cp_of (nm := nm) (dl := dl) h he hxl hz HS.out)
    have HCK0 := hide hck
    clear hsm hz hxl hck
    go_wp2_with fail
    go_at_call 8
    refine (PL.out w3 B3.out).mono ?_
    rintro e w4 ⟨pa, pc, ys0, rfl, _, hnd, hye, hb4⟩
    have C4 := hide (CP.out w4 _ pa _ pc ys0 hnd hye)
    have B4 := hide (B3.out.trans (hb4.mono B3.out.size))
    have NW := hide (new_any nm dl (pa, xs.length, pc) ys0 w4 C4.out.rd C4.out.cap C4.out.sz C4.out.ln)
    rw [show (NewEnd nm dl ys0 w4) = fun e w' => NewEnd nm dl ys0 w4 e w' from rfl] at NW
    clear hnd hye hb4 PL CP
    go_wp2_with fail
    go_at_call 7
    refine NW.out.mono ?_
    rintro e w5 ⟨hb5, hE⟩
    have B5 := hide (B4.out.trans (hb5.mono B4.out.size))
    clear hb5 NW
    rcases hE with ⟨hck, rfl⟩ | ⟨hck, P, G, sp, ys, v, rfl, hPs, hGs, hye, hch, hR⟩
    · exact absurd (by rw [C4.out.chk]; exact HCK0.out) hck
    · rw [C4.out.chk] at hck
      have hyx : ys.map er = xs.map er := hye.trans C4.out.er
      rw [C4.out.er |> map_nx] at hch hR
      have HYX := hide hyx
      have HMX := hide (map_nx hyx)
      have BU := hide (bu_of hck)
      have VX := hide (chk_ok hck).2.2.2.1
      obtain ⟨d, sk, r, rfl, _, _, _⟩ := hch
      have k6 := Keep.alloc (fun _ => False) w5 (.cells #[.slice d.1 d.2.1 d.2.2, .slice sk.1 sk.2.1 sk.2.2, .slice r.1 r.2.1 r.2.2, .int .i64 (newR (xs.map nx)).2.stt] 32)
      have B6 := hide (B5.out.trans (k6.below B5.out.size fun _ f => f.elim))
      have HB : Hid (∀ x ∈ xs.map nx, 1 ≤ x.bu) := fun x hx => by obtain ⟨y, hy, rfl⟩ := List.mem_map.1 hx; exact (BU.out y hy).1
      have MY := hide (new_may HB.out)
      have RB := hide (new_rsb (xs.map nx))
      have SD := hide (fun zs => new_said (xs.map nx) zs)
      have HR := hide (hR.new k6)
      have HPG : Hid (w1.heap.size ≤ P ∧ w1.heap.size ≤ G) := ⟨Nat.le_trans B4.out.size hPs, Nat.le_trans B4.out.size hGs⟩
      have HYL : Hid (ys.length = xs.length) := by show _ = _; have := congrArg List.length HMX.out; simpa using this
      clear hye hyx hck hR k6 hPs hGs C4 KW
      generalize (newR (xs.map nx)).2 = R at *
      simp only
      go_upto_region 6 with fail
      generalize w5.alloc (.cells #[.slice d.1 d.2.1 d.2.2, .slice sk.1 sk.2.1 sk.2.2, .slice r.1 r.2.1 r.2.2, .int .i64 R.stt] 32) = w6 at *
      obtain ⟨⟨c0, c1, c2⟩, _, _, _⟩ := HM.out w6 B6.out
      have hn64 : n ≤ 64 := by have := VX.out.1; have := HN.out; omega
      have hmk := made_strs w6 n hn64
      go_upto_region 9 with fail
      have k7 := Keep.alloc (fun _ => False) w6 (.cells (madeCells #[.string ⟨#[]⟩] n) 9)
      have z7 : (w6.alloc (.cells (madeCells #[.string ⟨#[]⟩] n) 9)).heap.size = w6.heap.size + 1 := by simp
      have hlt5 : P < w6.heap.size ∧ G < w6.heap.size := by
        obtain ⟨_, h1⟩ := HR.out.blk
        obtain ⟨_, h2⟩ := HR.out.prt
        exact ⟨(Array.getElem?_eq_some_iff.1 h1).1, (Array.getElem?_eq_some_iff.1 h2).1⟩
      have FS0 : Hid (Fs w1 P G w6.heap.size nm dl sp ys R (List.replicate n ⟨#[]⟩) (w6.alloc (.cells (madeCells #[.string ⟨#[]⟩] n) 9))) :=
        ⟨(HR.out.wide (U := fun k => k = P ∨ k = G ∨ k = w6.heap.size) (fun k hk => by omega) (.inl rfl) (.inr (.inl rfl))).new k7, sd_new w6 n, B6.out.trans (k7.below B6.out.size fun _ f => f.elim), ⟨HPG.out.1, HPG.out.2, B6.out.size⟩, by omega, fun k hk => by omega⟩
      generalize w6.alloc (.cells (madeCells #[.string ⟨#[]⟩] n) 9) = w7 at *
      generalize w6.heap.size = S at *
      have EX := hide (fun (R : Rs) (h : May (xs.map nx) R) (hB : RsB R.ps) => (⟨May.res (xs := xs) h hB, May.trs VX.out BU.out h, (by have := h.1.1; simpa using this)⟩ : (∀ p ∈ R.ps, (∀ d ∈ p.rs, d < 256) ∧ p.rs.length ≤ 1000) ∧ (∀ p ∈ R.ps, -1000 ≤ p.tr ∧ p.tr ≤ 1000) ∧ R.ps.length = xs.length))
      clear hlt5 HR B3 B4 B5 B6 HPG c0 c1 c2 hmk k7 z7
      go_wp2_with fail
      go_loopw [12] (fun v12 wr => ∃ (i : Nat) (R : Rs) (zs : List ByteArray), v12 = .int .i64 (i : Nat) ∧ i ≤ tn ∧ Hid (Fs w1 P G S nm dl sp ys R zs wr ∧ May (xs.map nx) R ∧ RsB R.ps ∧ Said R zs ∧ zs.length = n)) (fun v12 _ => tn - (intOf v12).toNat)
      case atStart => exact ⟨0, R, _, rfl, Nat.zero_le _, FS0.out, MY.out, RB.out, SD.out _, by simp⟩
      case round => as_aux_lemma =>
        clear FS0 MY RB SD
        obtain ⟨i, R, zs, rfl, hi, HD⟩ := hrel
        have FS : Hid (Fs w1 P G S nm dl sp ys R zs wr) := HD.out.1
        have MY : Hid (May (xs.map nx) R) := HD.out.2.1
        have RB : Hid (RsB R.ps) := HD.out.2.2.1
        have SD : Hid (Said R zs) := HD.out.2.2.2.1
        have ZL : Hid (zs.length = n) := HD.out.2.2.2.2
        clear HD
        by_cases hlt : i < tn
        · as_aux_lemma =>
          obtain ⟨_, _, ho, _⟩ := HM.out wr FS.out.bel
          obtain ⟨g, off, q, hta, hqi, hsq, q0, q1, q2, q3, q4⟩ := ho.at (i := i) hlt
          have hta : ta = some ⟨g, off, none⟩ := hta
          subst hta
          have HQI := hide hqi
          have HLT := hide hlt
          have HRS := hide hsq.1.2.2.1
          have ka := Keep.alloc (fun _ => False) wr (.cells #[.int .i64 q.k, .int .i64 q.on, .int .i64 q.to, .int .i64 q.i, .slice q.ra q.res.length q.rc] 40)
          have ba := heap_alloc_new wr (.cells #[.int .i64 q.k, .int .i64 q.on, .int .i64 q.to, .int .i64 q.i, .slice q.ra q.res.length q.rc] 40)
          have FA := hide (FS.out.new ka)
          have SQ : Hid (SpOk (wr.alloc (.cells #[.int .i64 q.k, .int .i64 q.on, .int .i64 q.to, .int .i64 q.i, .slice q.ra q.res.length q.rc] 40)) q) := ⟨hsq.1.stay ka (fun _ _ _ f => f), hsq.2⟩
          have HBA := hide ba
          have hOP : wr.heap.size ≠ P ∧ wr.heap.size ≠ G := by have := FS.out.lt P (.inl rfl); have := FS.out.lt G (.inr (.inl rfl)); omega
          clear ho hsq hqi ka ba hlt hi FS
          go_upto_region 13 with fail
          generalize wr.alloc (.cells #[.int .i64 q.k, .int .i64 q.on, .int .i64 q.to, .int .i64 q.i, .slice q.ra q.res.length q.rc] 40) = wa at *
          generalize wr.heap.size = O at *
          have HOP := hide hOP
          have o0 := cell_blk HBA.out 0 (v := .int .i64 q.k) rfl
          have o1 := cell_blk HBA.out 1 (v := .int .i64 q.on) rfl
          have o2 := cell_blk HBA.out 2 (v := .int .i64 q.to) rfl
          have o3 := cell_blk HBA.out 3 (v := .int .i64 q.i) rfl
          have o4 := cell_blk HBA.out 4 (v := .slice q.ra q.res.length q.rc) rfl
          have DO := hide (does_any FA.out.run FA.out.lt q SQ.out (EX.out R MY.out RB.out).2.1)
          rw [HMX.out] at DO
          have MX := hide (do_may HB.out MY.out q.k q.i q.res)
          have RX : Hid (RsB (doR (xs.map nx) R q.k q.i q.res).2.ps) := do_rsb RB.out HRS.out
          have SX1 : Hid (¬ (q.k = 2 ∧ (doR (xs.map nx) R q.k q.i q.res).1.2.2 = 0) → Said (doR (xs.map nx) R q.k q.i q.res).2 zs) := fun h => SD.out.still h
          have SX2 : Hid (∀ ii : Nat, q.i = (ii : Int) → q.k = 2 → (doR (xs.map nx) R q.k q.i q.res).1.2.2 = 0 → Said (doR (xs.map nx) R q.k q.i q.res).2 (zs.set ii (str q.res))) := fun ii h1 h2 h3 => by
            rw [h1, h2] at h3 ⊢
            exact SD.out.put (by rw [ZL.out, HN.out]; exact (EX.out R MY.out RB.out).2.2.symm) h3
          have SX3 : Hid (q.k = 2 → (doR (xs.map nx) R q.k q.i q.res).1.2.2 = 0 → 0 ≤ q.i ∧ q.i < n) := fun h1 h2 => by
            rw [h1] at h2
            have := do_has h2
            have h3 := (EX.out R MY.out RB.out).2.2
            have := HN.out
            omega
          generalize doR (xs.map nx) R q.k q.i q.res = out at *
          clear hOP
          go_wp2_with fail
          go_at_call 9
          refine DO.out.mono ?_
          rintro e wb ⟨vb, rfl, ⟨db, skb, rb, rfl, _, _, _⟩, hrb, kb⟩
          have kc := Keep.alloc (fun _ => False) wb (.cells #[.slice db.1 db.2.1 db.2.2, .slice skb.1 skb.2.1 skb.2.2, .slice rb.1 rb.2.1 rb.2.2, .int .i64 out.1.1.stt] 32)
          have FC := hide ((FA.out.step kb hrb).new kc)
          have hbc := kc.blk (kb.blk HBA.out (fun f => by have := HOP.out; omega)) (fun f => f)
          have HBC := hide hbc
          clear hrb kb kc hbc DO FA HBA o0 o1 o2 o3 o4
          simp only
          go_upto_region 14 with fail
          generalize wb.alloc (.cells #[.slice db.1 db.2.1 db.2.2, .slice skb.1 skb.2.1 skb.2.2, .slice rb.1 rb.2.1 rb.2.2, .int .i64 out.1.1.stt] 32) = wc at *
          have o0 := cell_blk HBC.out 0 (v := .int .i64 q.k) rfl
          have o3 := cell_blk HBC.out 3 (v := .int .i64 q.i) rfl
          have o4 := cell_blk HBC.out 4 (v := .slice q.ra q.res.length q.rc) rfl
          by_cases hc0 : out.1.2.2 = 0
          · have hc0' : (out.1.2.2 == 0) = true := by simpa using hc0
            by_cases hk2 : q.k = 2
            · have hk2' : (q.k == 2) = true := by simpa using hk2
              obtain ⟨h0, h1⟩ := SX3.out hk2 hc0
              obtain ⟨ii, hii⟩ : ∃ ii : Nat, q.i = (ii : Int) := ⟨q.i.toNat, by omega⟩
              have S2 := hide (SX2.out ii hii hk2 hc0)
              have hin : ii < n := by omega
              rw [hii] at o3
              have hzi : zs[ii]? = some (zs[ii]'(by rw [ZL.out]; exact hin)) := List.getElem?_eq_getElem _
              generalize zs[ii]'_ = z at hzi
              obtain ⟨s0, s1⟩ := FC.out.sd.at hzi
              obtain ⟨_, _, ho, _⟩ := HM.out wc FC.out.bel
              obtain ⟨_, _, q', _, hqi', hsq, _⟩ := ho.at (i := i) HLT.out
              obtain rfl : q = q' := Option.some.inj (HQI.out.symm.trans hqi')
              have zc := conv_rd hsq.1 q.rc
              have FE := hide (FC.out.put ii (str q.res))
              clear hc0 hk2 h0 h1 hii hzi ho hqi' hsq SX1 SX2 SX3
              go_wp2_with fail
              go_roundw
              · exact ⟨i + 1, out.2, zs.set ii (str q.res), rfl, by have := HLT.out; omega, FE.out, MX.out, RX.out, S2.out, by rw [List.length_set]; exact ZL.out⟩
              · show tn - ((i : Int) + 1).toNat < tn - (i : Int).toNat
                have := HLT.out; omega
            · have hk2' : (q.k == 2) = false := by simpa using hk2
              have S2 := hide (SX1.out fun h => hk2 h.1)
              clear hc0 hk2 SX1 SX2 SX3
              go_wp2_with fail
              go_roundw
              · exact ⟨i + 1, out.2, zs, rfl, by have := HLT.out; omega, FC.out, MX.out, RX.out, S2.out, ZL.out⟩
              · show tn - ((i : Int) + 1).toNat < tn - (i : Int).toNat
                have := HLT.out; omega
          · have hc0' : (out.1.2.2 == 0) = false := by simpa using hc0
            have S2 := hide (SX1.out fun h => hc0 h.2)
            clear hc0 SX1 SX2 SX3
            go_wp2_with fail
            go_roundw
            · exact ⟨i + 1, out.2, zs, rfl, by have := HLT.out; omega, FC.out, MX.out, RX.out, S2.out, ZL.out⟩
            · show tn - ((i : Int) + 1).toNat < tn - (i : Int).toNat
              have := HLT.out; omega
        · as_aux_lemma =>
          obtain rfl : i = tn := by omega
          clear hi hlt
          have HJ0 : Hid (n ≤ 64) := by have := VX.out.1; have := HN.out; show n ≤ 64; omega
          go_wp2_with fail
          go_loopw [17] (fun v17 wz => ∃ j : Nat, v17 = .int .i64 (j : Nat) ∧ j ≤ n ∧ Hid (Fs w1 P G S nm dl sp ys R zs wz)) (fun v17 _ => n - (intOf v17).toNat)
          case atStart => exact ⟨0, rfl, Nat.zero_le _, FS.out⟩
          case round => as_aux_lemma =>
            clear FS
            obtain ⟨j, rfl, hj, FJ⟩ := hrel
            obtain ⟨⟨c0, c1, c2⟩, _, _, kw⟩ := HM.out _ FJ.out.bel
            have KW := hide kw
            clear kw
            by_cases hlt : j < n
            · as_aux_lemma =>
              have hxj : xs[j]? = some (xs[j]'(by have := HN.out; omega)) := List.getElem?_eq_getElem _
              generalize xs[j]'_ = x at hxj
              have hpj : R.ps[j]? = some (R.ps[j]'(by rw [(EX.out R MY.out RB.out).2.2]; have := HN.out; omega)) := List.getElem?_eq_getElem _
              generalize R.ps[j]'_ = p at hpj
              have HX := hide hxj
              have HP := hide hpj
              have HJN := hide hlt
              have NI := hide (node_in FJ.out.run j p hpj)
              have hb2 : ∀ p ∈ R.ps, p.rs.length ≤ 1000 := fun p hp => ((EX.out R MY.out RB.out).1 p hp).2
              have HB2 := hide hb2
              clear hxj hpj hb2
              go_wp2_with fail
              go_at_call 10
              refine NI.out.mono ?_
              rintro e w2 ⟨rfl, k2⟩
              have F2 := hide (FJ.out.new k2)
              have RI := hide (result_in F2.out.run HB2.out j p HP.out)
              clear k2 NI FJ
              go_wp2_with fail
              go_at_call 11
              refine RI.out.mono ?_
              rintro e w3 ⟨v3, rfl, ho3, k3⟩
              have F3 := hide (F2.out.new k3)
              obtain ⟨ra, rc, rfl, RV⟩ := res_conv ho3 ((EX.out R MY.out RB.out).1 p (List.mem_of_getElem? HP.out))
              have RVH := hide RV
              clear k3 RI F2 ho3 RV c0 c1 c2 KW hj hlt
              obtain ⟨st, tr, rs⟩ := p
              simp only at *
              by_cases h5 : st = 5
              · as_aux_lemma =>
                subst h5
                have hr := ref_two HP.out
                have hrf : refI R (j : Int) [2, 3] = 131 := by rw [hr, if_neg (by show ¬ ((5 : Int) = 2 ∨ (5 : Int) = 3); decide)]
                have IN := hide (inputs_no F3.out.run (j : Int) (by rw [hrf]; decide))
                rw [hrf] at IN
                have hzj := SD.out j _ HP.out rfl
                clear hr hrf
                go_wp2_with fail
                go_at_call 12
                refine IN.out.mono ?_
                rintro e w4 ⟨rfl, k4⟩
                have F4 := hide (F3.out.new k4)
                have z1 := fun n => RVH.out w4 k4 n
                have s0 := (F4.out.sd.at hzj).1
                have hjn : j < n := HJN.out
                have hnb : n ≤ 64 := HJ0.out
                clear k4 hzj IN F3
                go_upto_region 22 with fail
                go_quiet (fail)
                have F5 := hide (F4.out.new (keep_drewN w4 nq))
                clear z1 s0
                go_wp2
                go_roundw
                · exact ⟨j + 1, rfl, by omega, F5.out⟩
                · show n - ((j : Int) + 1).toNat < n - (j : Int).toNat
                  omega
              · by_cases h2 : st = 2
                · as_aux_lemma =>
                  subst h2
                  have hrs : rs = [] := by rcases (MY.out.1.2 j (nx x) ⟨2, tr, rs⟩ (nxs_at HX.out) HP.out).1 with e | ⟨e, _⟩; exact e; cases e
                  subst hrs
                  have hrf : refI R (j : Int) [2, 3] = 0 := by rw [ref_two HP.out, if_pos (.inl rfl)]
                  obtain ⟨y, hy, hyn⟩ := er_at HYX.out HX.out
                  have IN := hide (inputs_ok F3.out.run (EX.out R MY.out RB.out).1 j y hy hrf (by rw [hyn]; exact (HZ.out x (List.mem_of_getElem? HX.out)).1))
                  rw [hyn] at IN
                  have EL := hide (fun (k : Nat) (e : Int) (hk : x.nl[k]? = some e) => rdy_elem MY.out SD.out VX.out HX.out HP.out (.inl rfl) hk)
                  clear hy hyn hrf
                  go_wp2_with fail
                  go_at_call 12
                  refine IN.out.mono ?_
                  rintro e w4 ⟨v4, rfl, hI⟩
                  have F4 := hide (F3.out.new hI.kp)
                  obtain ⟨la, lc, rfl, hel⟩ := hI.rd (fun l hl => by obtain ⟨e, _, rfl⟩ := List.mem_map.1 hl; exact rsAt_ok (EX.out R MY.out RB.out).1 e)
                  rw [List.length_map]
                  have HEL := hide hel
                  obtain ⟨⟨c0, c1, c2⟩, hp4, _, _⟩ := HM.out w4 F4.out.bel
                  obtain ⟨g, off, x', ha, _, hx', hN, hz1, _⟩ := hp4.at (i := j) (by show j < n; exact HJN.out)
                  obtain rfl : x = x' := Option.some.inj (HX.out.symm.trans hx')
                  have ha : a = some ⟨g, off, none⟩ := ha
                  subst ha
                  have n8 := hN.all.2.2.2.2.2.2.2.2.1
                  have hzl : x.q.ne.2.1 = x.nl.length := hz1.1
                  have hzb : x.nl.length ≤ 20000 := (HZ.out x (List.mem_of_getElem? HX.out)).1
                  rw [hzl] at n8
                  have hjn : j < n := HJN.out
                  clear hI hel hp4 hx' hN hz1 hzl IN F3
                  go_upto_region 22 with fail
                  go_quiet (fail)
                  have F5 := hide (F4.out.new (keep_drewN w4 nq))
                  have K5 : Hid (Keep (fun _ => False) w4 (w4.drewN nq)) := keep_drewN w4 nq
                  have c2' : (w4.drewN nq).cell? ⟨H, 2, none⟩ = some (.slice (some ⟨g, off, none⟩) n c) := c2
                  have n8' : (w4.drewN nq).cell? ⟨g, off + j * 10 + 8, none⟩ = some (.slice x.q.ne.1 x.nl.length x.q.ne.2.2) := n8
                  clear c0 c1 c2 n8
                  generalize w4.drewN nq = w5 at *
                  have hnb : n ≤ 64 := HJ0.out
                  go_wp2
                  clear c2' n8'
                  go_loopw [25] (fun v25 wz => ∃ k : Nat, v25 = .int .i64 (k : Nat) ∧ k ≤ x.nl.length ∧ Hid (Keep (fun _ => False) w4 wz)) (fun v25 _ => x.nl.length - (intOf v25).toNat)
                  case atStart => exact ⟨0, rfl, Nat.zero_le _, K5.out⟩
                  case round => as_aux_lemma =>
                    obtain ⟨k, rfl, hk, HK⟩ := hrel
                    have FK := hide (F4.out.new HK.out)
                    by_cases hkl : k < x.nl.length
                    · as_aux_lemma =>
                      have he : x.nl[k]? = some (x.nl[k]'hkl) := List.getElem?_eq_getElem _
                      generalize x.nl[k]'hkl = ev at he
                      obtain ⟨en, rfl, hen, hzn⟩ := EL.out k ev he
                      obtain ⟨g3, m3, hla, q3, hr3⟩ := HEL.out k (rsAt R.ps (en : Int)) (by rw [List.getElem?_map, he]; rfl)
                      have q3 := HK.out.cell q3 (fun f => f)
                      have z3 := conv_keep hr3 HK.out m3.2.2
                      have s0 := (FK.out.sd.at hzn).1
                      obtain ⟨⟨_, _, c2⟩, hp4, _, _⟩ := HM.out _ FK.out.bel
                      obtain ⟨g', off', n8, g2, o2, hga, hne, e3⟩ := need_cell hp4 HX.out he
                      simp only [Option.some.injEq, Addr.mk.injEq, and_true] at hga
                      obtain ⟨rfl, rfl⟩ := hga
                      subst hla
                      rw [hne] at n8
                      have henn : en < n := by have := HN.out; omega
                      have HKL := hide hkl
                      clear hr3 hzn he hp4 hne hen
                      generalize str (rsAt R.ps (en : Int)) = u3 at *
                      go_upto_region 32 with fail
                      go_quiet (fail)
                      have K6 : Hid (Keep (fun _ => False) w4 (Go.World.drewN _ nq)) := HK.out.more (keep_drewN _ nq)
                      clear q3 z3 s0 c2 n8 e3
                      go_wp2
                      go_roundw
                      · exact ⟨k + 1, rfl, by omega, K6.out⟩
                      · show x.nl.length - ((k : Int) + 1).toNat < x.nl.length - (k : Int).toNat
                        omega
                    · as_aux_lemma =>
                      obtain rfl : k = x.nl.length := by omega
                      go_wp2
                      go_roundw
                      · exact ⟨j + 1, rfl, by omega, FK.out⟩
                      · show n - ((j : Int) + 1).toNat < n - (j : Int).toNat
                        omega
                · by_cases h3 : st = 3
                  · as_aux_lemma =>
                    subst h3
                    have hrs : rs = [] := by rcases (MY.out.1.2 j (nx x) ⟨3, tr, rs⟩ (nxs_at HX.out) HP.out).1 with e | ⟨e, _⟩; exact e; cases e
                    subst hrs
                    have hrf : refI R (j : Int) [2, 3] = 0 := by rw [ref_two HP.out, if_pos (.inr rfl)]
                    obtain ⟨y, hy, hyn⟩ := er_at HYX.out HX.out
                    have IN := hide (inputs_ok F3.out.run (EX.out R MY.out RB.out).1 j y hy hrf (by rw [hyn]; exact (HZ.out x (List.mem_of_getElem? HX.out)).1))
                    rw [hyn] at IN
                    have EL := hide (fun (k : Nat) (e : Int) (hk : x.nl[k]? = some e) => rdy_elem MY.out SD.out VX.out HX.out HP.out (.inr rfl) hk)
                    clear hy hyn hrf
                    go_wp2_with fail
                    go_at_call 12
                    refine IN.out.mono ?_
                    rintro e w4 ⟨v4, rfl, hI⟩
                    have F4 := hide (F3.out.new hI.kp)
                    obtain ⟨la, lc, rfl, hel⟩ := hI.rd (fun l hl => by obtain ⟨e, _, rfl⟩ := List.mem_map.1 hl; exact rsAt_ok (EX.out R MY.out RB.out).1 e)
                    rw [List.length_map]
                    have HEL := hide hel
                    obtain ⟨⟨c0, c1, c2⟩, hp4, _, _⟩ := HM.out w4 F4.out.bel
                    obtain ⟨g, off, x', ha, _, hx', hN, hz1, _⟩ := hp4.at (i := j) (by show j < n; exact HJN.out)
                    obtain rfl : x = x' := Option.some.inj (HX.out.symm.trans hx')
                    have ha : a = some ⟨g, off, none⟩ := ha
                    subst ha
                    have n8 := hN.all.2.2.2.2.2.2.2.2.1
                    have hzl : x.q.ne.2.1 = x.nl.length := hz1.1
                    have hzb : x.nl.length ≤ 20000 := (HZ.out x (List.mem_of_getElem? HX.out)).1
                    rw [hzl] at n8
                    have hjn : j < n := HJN.out
                    clear hI hel hp4 hx' hN hz1 hzl IN F3
                    go_upto_region 22 with fail
                    go_quiet (fail)
                    have F5 := hide (F4.out.new (keep_drewN w4 nq))
                    have K5 : Hid (Keep (fun _ => False) w4 (w4.drewN nq)) := keep_drewN w4 nq
                    have c2' : (w4.drewN nq).cell? ⟨H, 2, none⟩ = some (.slice (some ⟨g, off, none⟩) n c) := c2
                    have n8' : (w4.drewN nq).cell? ⟨g, off + j * 10 + 8, none⟩ = some (.slice x.q.ne.1 x.nl.length x.q.ne.2.2) := n8
                    clear c0 c1 c2 n8
                    generalize w4.drewN nq = w5 at *
                    have hnb : n ≤ 64 := HJ0.out
                    go_wp2
                    clear c2' n8'
                    go_loopw [25] (fun v25 wz => ∃ k : Nat, v25 = .int .i64 (k : Nat) ∧ k ≤ x.nl.length ∧ Hid (Keep (fun _ => False) w4 wz)) (fun v25 _ => x.nl.length - (intOf v25).toNat)
                    case atStart => exact ⟨0, rfl, Nat.zero_le _, K5.out⟩
                    case round => as_aux_lemma =>
                      obtain ⟨k, rfl, hk, HK⟩ := hrel
                      have FK := hide (F4.out.new HK.out)
                      by_cases hkl : k < x.nl.length
                      · as_aux_lemma =>
                        have he : x.nl[k]? = some (x.nl[k]'hkl) := List.getElem?_eq_getElem _
                        generalize x.nl[k]'hkl = ev at he
                        obtain ⟨en, rfl, hen, hzn⟩ := EL.out k ev he
                        obtain ⟨g3, m3, hla, q3, hr3⟩ := HEL.out k (rsAt R.ps (en : Int)) (by rw [List.getElem?_map, he]; rfl)
                        have q3 := HK.out.cell q3 (fun f => f)
                        have z3 := conv_keep hr3 HK.out m3.2.2
                        have s0 := (FK.out.sd.at hzn).1
                        obtain ⟨⟨_, _, c2⟩, hp4, _, _⟩ := HM.out _ FK.out.bel
                        obtain ⟨g', off', n8, g2, o2, hga, hne, e3⟩ := need_cell hp4 HX.out he
                        simp only [Option.some.injEq, Addr.mk.injEq, and_true] at hga
                        obtain ⟨rfl, rfl⟩ := hga
                        subst hla
                        rw [hne] at n8
                        have henn : en < n := by have := HN.out; omega
                        have HKL := hide hkl
                        clear hr3 hzn he hp4 hne hen
                        generalize str (rsAt R.ps (en : Int)) = u3 at *
                        go_upto_region 32 with fail
                        go_quiet (fail)
                        have K6 : Hid (Keep (fun _ => False) w4 (Go.World.drewN _ nq)) := HK.out.more (keep_drewN _ nq)
                        clear q3 z3 s0 c2 n8 e3
                        go_wp2
                        go_roundw
                        · exact ⟨k + 1, rfl, by omega, K6.out⟩
                        · show x.nl.length - ((k : Int) + 1).toNat < x.nl.length - (k : Int).toNat
                          omega
                      · as_aux_lemma =>
                        obtain rfl : k = x.nl.length := by omega
                        go_wp2
                        go_roundw
                        · exact ⟨j + 1, rfl, by omega, FK.out⟩
                        · show n - ((j : Int) + 1).toNat < n - (j : Int).toNat
                          omega
                  · as_aux_lemma =>
                    have hrs : rs = [] := by rcases (MY.out.1.2 j (nx x) ⟨st, tr, rs⟩ (nxs_at HX.out) HP.out).1 with e | ⟨e, _⟩; exact e; exact absurd e h5
                    subst hrs
                    have hrf : refI R (j : Int) [2, 3] = 131 := by rw [ref_two HP.out, if_neg (by show ¬ (st = 2 ∨ st = 3); omega)]
                    have IN := hide (inputs_no F3.out.run (j : Int) (by rw [hrf]; decide))
                    rw [hrf] at IN
                    have h5a : (st == 5) = false := by simpa using h5
                    have h5b : (st != 5) = true := by simpa using h5
                    have h2b : (st != 2) = true := by simpa using h2
                    have h3b : (st != 3) = true := by simpa using h3
                    clear hrf h5 h2 h3
                    go_wp2_with fail
                    go_at_call 12
                    refine IN.out.mono ?_
                    rintro e w4 ⟨rfl, k4⟩
                    have F4 := hide (F3.out.new k4)
                    have hjn : j < n := HJN.out
                    have hnb : n ≤ 64 := HJ0.out
                    clear k4 IN F3
                    go_upto_region 22 with fail
                    go_quiet (fail)
                    have F5 := hide (F4.out.new (keep_drewN w4 nq))
                    go_wp2
                    go_roundw
                    · exact ⟨j + 1, rfl, by omega, F5.out⟩
                    · show n - ((j : Int) + 1).toNat < n - (j : Int).toNat
                      omega
            · as_aux_lemma =>
              obtain rfl : j = n := by omega
              go_wp2_with fail
              go_ret
              exact ⟨rfl, by rw [← HHE.out]; exact KW.out⟩
end Rn
end Go.Proofs.Ytcgkkhkpimjlmab
