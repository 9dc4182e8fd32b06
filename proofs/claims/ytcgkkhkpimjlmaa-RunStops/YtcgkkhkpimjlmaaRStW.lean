/- RunStops: the walk. -/
import Derived.Test.YtcgkkhkpimjlmaaRFrm
import Derived.Test.YtcgkkhkpimjlmaaRFit
import Derived.Test.YtcgkkhkpimjlmaaRDoe
import Derived.Test.YtcgkkhkpimjlmaaRPck
import Derived.Test.YtcgkkhkpimjlmaaGRfA
import Derived.Deep.CutRange
import Derived.Deep.CutBlock
import Derived.Deep.QuietTactic
namespace Go.Proofs.Ytcgkkhkpimjlmaa
namespace Rn
open Go.RowKit Gr

theorem Fr.rdt2 {T : Nat → Prop} {w1 w : World} {P G : Nat} {nm : ByteArray} {dl : Int} {s : Option Addr × Nat × Nat} {xs : List No} {R : Rs} {va : Option Addr} {m vc : Nat} {ps : List Pt} (h : Fr T w1 P G nm dl s xs R (.slice va m vc) ps w) (hb : ∀ p ∈ ps, (∀ d ∈ p.rs, d < 256) ∧ p.rs.length ≤ 1000) : RdT w (va, m, vc) ps := by
  obtain ⟨a, c, e, hr⟩ := h.rdt hb
  injection e with e1 e2 e3
  subst e1 e2 e3
  exact hr
/-- what stands between two rounds of the second loop -/
structure LpI (w : World) (ps : List Pt) (j : Nat) (da : Option Addr) (dc : Nat) (sa : Option Addr) (sc : Nat) (wr : World) : Prop where
  od : wr.ownsRow w.heap.size 3 1 (.slice da (deadI ps j).length dc) (deadI ps j).length (iv (deadI ps j))
  os : wr.ownsRow w.heap.size 3 1 (.slice sa (skipI ps j).length sc) (skipI ps j).length (iv (skipI ps j))
  dj : ∀ k, (Value.slice da (deadI ps j).length dc).ownBlock = some k → (Value.slice sa (skipI ps j).length sc).ownBlock ≠ some k
  kp : Keep (fun _ => False) w wr
/-- what a node of the second loop leaves -/
def LpE (w : World) (ps : List Pt) (j : Nat) (st : Int) (v20 v21 v24 : Value) (wx : World) : Prop :=
  ∃ (da sa : Option Addr) (dc sc : Nat), v20 = .slice da (deadI ps (j + 1)).length dc ∧ v21 = .slice sa (skipI ps (j + 1)).length sc ∧ v24 = .int .i64 (stopS st) ∧ LpI w ps (j + 1) da dc sa sc wx
theorem LpI.start (w : World) (ps : List Pt) : LpI w ps 0 none 0 none 0 w :=
  ⟨World.ownsRow_nil _ _ _ _, World.ownsRow_nil _ _ _ _, fun k hk => by simp [Value.ownBlock] at hk, Keep.refl _ _⟩
theorem keep_up {w w' : World} (k : Keep (fun k => w.heap.size ≤ k) w w') : Keep (fun _ => False) w w' := ⟨k.os, k.tape, k.output, k.size, fun j hj _ => k.block j hj fun h => by omega⟩
theorem LpI.more {w wr w' : World} {ps : List Pt} {j : Nat} {da sa : Option Addr} {dc sc : Nat} (h : LpI w ps j da dc sa sc wr) (k : Keep (fun _ => False) wr w') : LpI w ps j da dc sa sc w' := ⟨ownsRow_new h.od k, ownsRow_new h.os k, h.dj, h.kp.more k⟩
theorem LpI.stay {w wr : World} {ps : List Pt} {j : Nat} {da sa : Option Addr} {dc sc : Nat} (h : LpI w ps j da dc sa sc wr) {p : Pt} (hp : ps[j]? = some p) (hs : p.st = 5 ∨ p.st = 6 ∨ p.st = 7) : LpE w ps j p.st (.slice da (deadI ps j).length dc) (.slice sa (skipI ps j).length sc) (.int .i64 p.st) wr := by
  have e1 : deadI ps (j + 1) = deadI ps j := by rw [deadI_succ hp, if_neg]; rcases hs with e | e | e <;> rw [e] <;> decide
  have e2 : skipI ps (j + 1) = skipI ps j := by rw [skipI_succ hp, if_neg (by omega)]
  have e3 : stopS p.st = p.st := by unfold stopS; rw [if_pos]; rcases hs with e | e | e <;> rw [e] <;> rfl
  refine ⟨da, sa, dc, sc, by rw [e1], by rw [e2], by rw [e3], ?_⟩
  exact ⟨by rw [e1]; exact h.od, by rw [e2]; exact h.os, by rw [e1, e2]; exact h.dj, h.kp⟩
theorem LpI.skip {w wr : World} {ps : List Pt} {j : Nat} {da sa : Option Addr} {dc sc : Nat} (h : LpI w ps j da dc sa sc wr) {p : Pt} (hp : ps[j]? = some p) (hs : p.st = 1) {v' : Value} {w7 : World} (ho : w7.ownsRow w.heap.size 3 1 v' ((skipI ps j).length + 1) (iv (skipI ps j) ++ [.int .i64 (j : Int)])) (hg : Keep (fun k => (Value.slice sa (skipI ps j).length sc).ownBlock = some k) (wr.alloc (.cells #[.int .i64 (j : Int)] 3)) w7) (hn : NewBlk (wr.alloc (.cells #[.int .i64 (j : Int)] 3)) (.slice sa (skipI ps j).length sc) v') : LpE w ps j p.st (.slice da (deadI ps j).length dc) v' (.int .i64 7) w7 := by
  have k6 := Keep.alloc (fun _ => False) wr (.cells #[.int .i64 (j : Int)] 3)
  have e1 : deadI ps (j + 1) = deadI ps j := by rw [deadI_succ hp, hs]; rfl
  have e2 : skipI ps (j + 1) = skipI ps j ++ [j] := by rw [skipI_succ hp, if_pos hs]
  have e3 : stopS p.st = 7 := by rw [hs]; rfl
  obtain ⟨na, nc, rfl⟩ := ownsRow_shape ho
  have od6 := ownsRow_new h.od k6
  have os6 := ownsRow_new h.os k6
  refine ⟨da, na, dc, nc, by rw [e1], by rw [e2, List.length_append]; rfl, by rw [e3], ?_⟩
  refine ⟨by rw [e1]; exact ownsRow_keep od6 hg (fun k hk hh => h.dj k hh hk), ?_, ?_, ?_⟩
  · rw [e2, List.length_append, iv_snoc]; exact ho
  · rw [e1, e2, List.length_append]
    intro k hk hk2
    rcases hn with e | e
    · exact h.dj k hk (e.symm.trans hk2)
    · have := e k hk2
      have := (od6.lt k hk).2
      omega
  · exact keep_up (((h.kp.more k6).mono fun _ f => f.elim).more (hg.mono fun k hk => (os6.lt k hk).1))
theorem LpI.dead {w wr : World} {ps : List Pt} {j : Nat} {da sa : Option Addr} {dc sc : Nat} (h : LpI w ps j da dc sa sc wr) {p : Pt} (hp : ps[j]? = some p) (hs : p.st = 2 ∨ p.st = 3 ∨ p.st = 4) {v' : Value} {w7 : World} (ho : w7.ownsRow w.heap.size 3 1 v' ((deadI ps j).length + 1) (iv (deadI ps j) ++ [.int .i64 (j : Int)])) (hg : Keep (fun k => (Value.slice da (deadI ps j).length dc).ownBlock = some k) (wr.alloc (.cells #[.int .i64 (j : Int)] 3)) w7) (hn : NewBlk (wr.alloc (.cells #[.int .i64 (j : Int)] 3)) (.slice da (deadI ps j).length dc) v') : LpE w ps j p.st v' (.slice sa (skipI ps j).length sc) (.int .i64 6) w7 := by
  have k6 := Keep.alloc (fun _ => False) wr (.cells #[.int .i64 (j : Int)] 3)
  have e1 : deadI ps (j + 1) = deadI ps j ++ [j] := by rw [deadI_succ hp, if_pos]; rcases hs with e | e | e <;> rw [e] <;> rfl
  have e2 : skipI ps (j + 1) = skipI ps j := by rw [skipI_succ hp, if_neg (by omega)]
  have e3 : stopS p.st = 6 := by rcases hs with e | e | e <;> rw [e] <;> rfl
  obtain ⟨na, nc, rfl⟩ := ownsRow_shape ho
  have od6 := ownsRow_new h.od k6
  have os6 := ownsRow_new h.os k6
  refine ⟨na, sa, nc, sc, by rw [e1, List.length_append]; rfl, by rw [e2], by rw [e3], ?_⟩
  refine ⟨?_, by rw [e2]; exact ownsRow_keep os6 hg (fun k hk hh => h.dj k hk hh), ?_, ?_⟩
  · rw [e1, List.length_append, iv_snoc]; exact ho
  · rw [e1, e2, List.length_append]
    intro k hk hk2
    rcases hn with e | e
    · exact h.dj k (e.symm.trans hk) hk2
    · have := e k hk
      have := (os6.lt k hk2).2
      omega
  · exact keep_up (((h.kp.more k6).mono fun _ f => f.elim).more (hg.mono fun k hk => (od6.lt k hk).1))
theorem ended_steps {xs : List Nx} {R : Rs} (h : allSet R.ps = true) (h1 : R.stt ≠ 1) {i : Nat} (hi : i < R.ps.length) : leaseR R (i : Int) = ((0, 131), R) ∧ finishR xs R (i : Int) [] = ((Chg.none, 131), R) ∧ missR xs R (i : Int) = ((Chg.none, 131), R) ∧ wakeR xs R (i : Int) = ((Chg.none, 131), R) ∧ stopR R 4 = ((Chg.none, 131), R) ∧ refI R (i : Int) [2, 3] = 131 := by
  have r2 := ref_set h hi (l := [2]) (by decide)
  have r3 := ref_set h hi (l := [3]) (by decide)
  have r4 := ref_set h hi (l := [4]) (by decide)
  have r5 := ref_set h hi (l := [2, 3]) (by decide)
  refine ⟨?_, ?_, ?_, ?_, stop_no (.inl rfl) h1, r5⟩
  · unfold leaseR; rw [r2]; rfl
  · unfold finishR; rw [r3, if_neg (by simp)]; rfl
  · unfold missR; rw [r3]; rfl
  · unfold wakeR; rw [r4]; rfl
theorem td_cells {w : World} {s : Option Addr × Nat × Nat} {ps : List Pt} (h : RdT w s ps) {j : Nat} {p : Pt} (hp : ps[j]? = some p) : ∃ (g off : Nat) (m : Option Addr × Nat × Nat), s.1 = some ⟨g, off, none⟩ ∧ w.cell? ⟨g, off + j * 5, none⟩ = some (.int .i64 p.st) ∧ w.cell? ⟨g, off + j * 5 + 1, none⟩ = some (.int .i64 p.tr) ∧ w.cell? ⟨g, off + j * 5 + 4, none⟩ = some (.slice m.1 m.2.1 m.2.2) ∧ ∀ n, (convert 43 9 (.slice m.1 m.2.1 m.2.2)).run Try.prog (w.drewN n) = .ok (.string (str p.rs)) (w.drewN n) := by
  obtain ⟨g, o, p', m, h1, hp', c0, c1, c4, hr⟩ := h.at (List.getElem?_eq_some_iff.1 hp).1
  obtain rfl : p = p' := Option.some.inj (hp.symm.trans hp')
  exact ⟨g, o, m, h1, c0, c1, c4, fun n => conv_rd (hr.stay (S := fun _ => False) (keep_drewN w n) fun _ _ _ f => f) m.2.2⟩
theorem td_stop {w : World} {s : Option Addr × Nat × Nat} {ps : List Pt} (h : RdT w s (ps.map stopP)) {j : Nat} {p : Pt} (hp : ps[j]? = some p) : ∃ (g off : Nat) (m : Option Addr × Nat × Nat), s.1 = some ⟨g, off, none⟩ ∧ w.cell? ⟨g, off + j * 5, none⟩ = some (.int .i64 (stopS p.st)) ∧ w.cell? ⟨g, off + j * 5 + 1, none⟩ = some (.int .i64 p.tr) ∧ w.cell? ⟨g, off + j * 5 + 4, none⟩ = some (.slice m.1 m.2.1 m.2.2) ∧ ∀ n, (convert 43 9 (.slice m.1 m.2.1 m.2.2)).run Try.prog (w.drewN n) = .ok (.string (str p.rs)) (w.drewN n) :=
  td_cells h (p := stopP p) (by rw [List.getElem?_map, hp]; rfl)
/-- nothing was told yet -/
theorem td_nil (w : World) : TdAt w.heap.size w (.slice none 0 0) [] := ⟨[], rfl, World.ownsRow_nil _ _ _ _, fun x hx => by cases hx⟩
set_option maxRecDepth 100000 in
set_option maxHeartbeats 40000000 in
theorem stops_walk (nm : ByteArray) (dl : Int) (s t : Option Addr × Nat × Nat) (xs : List No) (qs : List Sp) (ex : Bool) (nd : Int) (w : World) (hP : RdP w.heap.size w s xs) (hs : Sz nm xs) (hc : CapP xs) (hq : RdO w t qs) (hn1 : -9223372036854775808 ≤ nd) (hn2 : nd ≤ 9223372036854775807) :
    Calls Try.prog 6 #[.agg #[.string nm, .int .i64 dl, .slice s.1 s.2.1 s.2.2, .slice t.1 t.2.1 t.2.2, .bool ex, .int .i64 nd]] w fun e w' => e = .returned (.bool true) ∧ Below w.heap.size w w' := by
  obtain ⟨a, n, c⟩ := s
  obtain ⟨ta, tn, tc⟩ := t
  have HN : Hid (n = xs.length) := hP.1
  have HND : Hid (-9223372036854775808 ≤ nd ∧ nd ≤ 9223372036854775807) := ⟨hn1, hn2⟩
  have k1 := Keep.alloc (fun _ => False) w (.cells #[.string nm, .int .i64 dl, .slice a n c, .slice ta tn tc, .bool ex, .int .i64 nd] 76)
  have b1 := heap_alloc_new w (.cells #[.string nm, .int .i64 dl, .slice a n c, .slice ta tn tc, .bool ex, .int .i64 nd] 76)
  have htn2 : tn ≤ 140737488355328 := hq.2.1
  have HM1 : Hid (∀ W, Below (w.alloc (.cells #[.string nm, .int .i64 dl, .slice a n c, .slice ta tn tc, .bool ex, .int .i64 nd] 76)).heap.size (w.alloc (.cells #[.string nm, .int .i64 dl, .slice a n c, .slice ta tn tc, .bool ex, .int .i64 nd] 76)) W → (W.cell? ⟨w.heap.size, 0, none⟩ = some (.string nm) ∧ W.cell? ⟨w.heap.size, 1, none⟩ = some (.int .i64 dl) ∧ W.cell? ⟨w.heap.size, 2, none⟩ = some (.slice a n c) ∧ W.cell? ⟨w.heap.size, 3, none⟩ = some (.slice ta tn tc) ∧ W.cell? ⟨w.heap.size, 4, none⟩ = some (.bool ex) ∧ W.cell? ⟨w.heap.size, 5, none⟩ = some (.int .i64 nd)) ∧ RdP W.heap.size W (a, n, c) xs ∧ RdO W (ta, tn, tc) qs ∧ Below w.heap.size w W) := fun W k => by
    have k2 : Keep (fun _ => False) (w.alloc (.cells #[.string nm, .int .i64 dl, .slice a n c, .slice ta tn tc, .bool ex, .int .i64 nd] 76)) W := Keep.ofBelow k (Nat.le_refl _)
    have kb : Below w.heap.size w W := (k1.more k2).below (Nat.le_refl _) fun _ f => f.elim
    have hb := k2.blk b1 (fun f => f)
    exact ⟨⟨cell_blk hb 0 rfl, cell_blk hb 1 rfl, cell_blk hb 2 rfl, cell_blk hb 3 rfl, cell_blk hb 4 rfl, cell_blk hb 5 rfl⟩, (hP.new (k1.more k2)).mono (k1.more k2).size, hq.below kb, kb⟩
  have HS := hide hs
  have HC := hide hc
  clear hP hs hc hq k1 b1 hn1 hn2
  go_enter Try.func6, Try.ntmps6
  go_upto_region 1 with fail
  obtain ⟨H, hH⟩ : ∃ H, H = w.heap.size := ⟨_, rfl⟩
  generalize w.alloc (.cells #[.string nm, .int .i64 dl, .slice a n c, .slice ta tn tc, .bool ex, .int .i64 nd] 76) = w0 at *
  rw [← hH] at HM1 ⊢
  have HHE := hide hH
  clear hH
  go_wp2_with fail
  go_at_call 7
  refine (awake_any w0).mono ?_
  rintro e w2 ⟨rfl, b2⟩
  have B2 := hide b2
  obtain ⟨⟨c0, c1, c2, c3, c4, c5⟩, _, _, _⟩ := HM1.out w2 b2
  have kp := Keep.alloc (fun _ => False) w2 (.cells #[.string nm, .int .i64 dl, .slice a n c] 24)
  have bp := heap_alloc_new w2 (.cells #[.string nm, .int .i64 dl, .slice a n c] 24)
  have HM : Hid (∀ W, Below (w2.alloc (.cells #[.string nm, .int .i64 dl, .slice a n c] 24)).heap.size (w2.alloc (.cells #[.string nm, .int .i64 dl, .slice a n c] 24)) W → (W.cell? ⟨w2.heap.size, 0, none⟩ = some (.string nm) ∧ W.cell? ⟨w2.heap.size, 1, none⟩ = some (.int .i64 dl) ∧ W.cell? ⟨w2.heap.size, 2, none⟩ = some (.slice a n c)) ∧ (W.cell? ⟨H, 3, none⟩ = some (.slice ta tn tc) ∧ W.cell? ⟨H, 4, none⟩ = some (.bool ex) ∧ W.cell? ⟨H, 5, none⟩ = some (.int .i64 nd)) ∧ RdP W.heap.size W (a, n, c) xs ∧ RdO W (ta, tn, tc) qs ∧ Below w.heap.size w W) := fun W k => by
    have k2 : Keep (fun _ => False) (w2.alloc (.cells #[.string nm, .int .i64 dl, .slice a n c] 24)) W := Keep.ofBelow k (Nat.le_refl _)
    obtain ⟨⟨_, _, _, d3, d4, d5⟩, h2, h3, h4⟩ := HM1.out W (B2.out.trans ((kp.more k2).below B2.out.size fun _ f => f.elim))
    have hb := k2.blk bp (fun f => f)
    exact ⟨⟨cell_blk hb 0 rfl, cell_blk hb 1 rfl, cell_blk hb 2 rfl⟩, ⟨d3, d4, d5⟩, h2, h3, by rw [← HHE.out]; exact h4⟩
  clear kp bp b2
  go_upto_region 3 with fail
  obtain ⟨Q, hQ⟩ : ∃ Q, Q = w2.heap.size := ⟨_, rfl⟩
  generalize w2.alloc (.cells #[.string nm, .int .i64 dl, .slice a n c] 24) = w1 at *
  rw [← hQ] at HM ⊢
  clear hQ HM1 B2 c0 c1 c2 c3 c4 c5
  obtain ⟨⟨c0, c1, c2⟩, _, hp, _, _⟩ := HM.out w1 (Below.refl _ _)
  have FT := hide (fits_any nm dl (a, n, c) xs w1 hp HS.out)
  clear hp
  go_wp2_with fail
  go_at_call 24
  refine FT.out.mono ?_
  rintro e w3 ⟨hE, k3⟩
  have B3 : Hid (Below w1.heap.size w1 w3) := k3.below (Nat.le_refl _) fun _ f => f.elim
  obtain ⟨⟨c0, c1, c2⟩, _, _, _, kw⟩ := HM.out w3 B3.out
  have KW := hide kw
  clear kw k3 FT
  rcases hE with rfl | ⟨rfl, hsm⟩
  · go_wp2_with fail
    go_ret
    exact ⟨rfl, KW.out⟩
  by_cases hck : (chk nm dl xs).2 = 0
  case neg =>
    rw [decide_eq_false hck]
    clear hck
    go_wp2_with fail
    go_ret
    exact ⟨rfl, KW.out⟩
  case pos =>
    rw [decide_eq_true hck]
    have hz : ∀ x ∈ xs, x.nl.length ≤ 20000 ∧ x.al.length ≤ 20000 := fun x hx => by have := edges_mem hx; omega
    have hxl : xs.length ≤ 20000 := by omega
    have PL := hide (fun (W : World) (k : Below w1.heap.size w1 W) => planned_any nm dl (a, n, c) xs W (HM.out W k).2.2.1 HC.out hxl hz)
    have CP := hide (fun (W : World) (B : Nat) (v : Option Addr) (m d : Nat) (ys : List No) (h : NdX B W (.slice v m d) ys) (he : ys.map er = xs.map er) => cp_of (nm := nm) (dl := dl) h he hxl hz HS.out)
    have HCK0 := hide hck
    clear hsm hz hxl hck
    go_wp2_with fail
    go_at_call 10
    refine (PL.out w3 B3.out).mono ?_
    rintro e w4 ⟨pa, pc, ys0, rfl, _, hnd, hye, hb4⟩
    have C4 := hide (CP.out w4 _ pa _ pc ys0 hnd hye)
    have B4 := hide (B3.out.trans (hb4.mono B3.out.size))
    have NW := hide (new_any nm dl (pa, xs.length, pc) ys0 w4 C4.out.rd C4.out.cap C4.out.sz C4.out.ln)
    rw [show (NewEnd nm dl ys0 w4) = fun e w' => NewEnd nm dl ys0 w4 e w' from rfl] at NW
    clear hnd hye hb4 PL CP
    go_wp2_with fail
    go_at_call 9
    refine NW.out.mono ?_
    rintro e w5 ⟨hb5, hE⟩
    have B5 := hide (B4.out.trans (hb5.mono B4.out.size))
    clear hb5 NW
    rcases hE with ⟨hck, rfl⟩ | ⟨hck, P, G, sp, ys, v, rfl, hPs, hGs, hye, hch, hR⟩
    · exact absurd (by rw [C4.out.chk]; exact HCK0.out) hck
    · have hmx : ys.map nx = ys0.map nx := map_nx hye
      rw [C4.out.chk] at hck
      have hyx : ys.map er = xs.map er := hye.trans C4.out.er
      rw [C4.out.er |> map_nx] at hch hR
      have HMX := hide (map_nx hyx)
      have BU := hide (bu_of hck)
      have VX := hide (chk_ok hck).2.2.2.1
      obtain ⟨d, sk, r, rfl, _, _, _⟩ := hch
      have k6 := Keep.alloc (fun _ => False) w5 (.cells #[.slice d.1 d.2.1 d.2.2, .slice sk.1 sk.2.1 sk.2.2, .slice r.1 r.2.1 r.2.2, .int .i64 (newR (xs.map nx)).2.stt] 31)
      have B6 := hide (B5.out.trans (k6.below B5.out.size fun _ f => f.elim))
      have HB : Hid (∀ x ∈ xs.map nx, 1 ≤ x.bu) := fun x hx => by obtain ⟨y, hy, rfl⟩ := List.mem_map.1 hx; exact (BU.out y hy).1
      have MY := hide (new_may HB.out)
      have RB := hide (new_rsb (xs.map nx))
      have HR := hide (hR.new k6)
      have HPG : Hid (w1.heap.size ≤ P ∧ w1.heap.size ≤ G) := ⟨Nat.le_trans B4.out.size hPs, Nat.le_trans B4.out.size hGs⟩
      have HYL : Hid (ys.length = xs.length) := by show _ = _; have := congrArg List.length HMX.out; simpa using this
      clear hye hmx hyx hck hR k6 hPs hGs C4 KW
      generalize (newR (xs.map nx)).2 = R at *
      simp only
      go_upto_region 7 with fail
      generalize w5.alloc (.cells #[.slice d.1 d.2.1 d.2.2, .slice sk.1 sk.2.1 sk.2.2, .slice r.1 r.2.1 r.2.2, .int .i64 R.stt] 31) = w6 at *
      have hlt5 : ∀ k, (k = P ∨ k = G) → k < w6.heap.size := fun k hk => by
        obtain ⟨_, h1⟩ := HR.out.blk
        obtain ⟨_, h2⟩ := HR.out.prt
        rcases hk with rfl | rfl
        · exact (Array.getElem?_eq_some_iff.1 h1).1
        · exact (Array.getElem?_eq_some_iff.1 h2).1
      have FR0 : Hid (Fr (fun k => k = P ∨ k = G) w1 P G nm dl sp ys R (.slice none 0 0) [] w6) := ⟨HR.out, ⟨_, td_nil _⟩, B6.out, HPG.out, hlt5⟩
      have EX := hide (fun (R : Rs) (h : May (xs.map nx) R) (hB : RsB R.ps) => (⟨May.res (xs := xs) h hB, May.trs VX.out BU.out h, (by have := h.1.1; simpa using this)⟩ : (∀ p ∈ R.ps, (∀ d ∈ p.rs, d < 256) ∧ p.rs.length ≤ 1000) ∧ (∀ p ∈ R.ps, -1000 ≤ p.tr ∧ p.tr ≤ 1000) ∧ R.ps.length = xs.length))
      clear hlt5 HR B3 B4 B5 B6 HPG c0 c1 c2
      go_wp2_with fail
      go_loopw [10] (fun v10 wr => ∃ (i : Nat) (R : Rs), v10 = .int .i64 (i : Nat) ∧ i ≤ tn ∧ Hid (Fr (fun k => k = P ∨ k = G) w1 P G nm dl sp ys R (.slice none 0 0) [] wr ∧ May (xs.map nx) R ∧ RsB R.ps)) (fun v10 _ => tn - (intOf v10).toNat)
      case atStart => exact ⟨0, R, rfl, Nat.zero_le _, FR0.out, MY.out, RB.out⟩
      case round => as_aux_lemma =>
        clear FR0 MY RB
        obtain ⟨i, R, rfl, hi, HD⟩ := hrel
        have FR : Hid (Fr (fun k => k = P ∨ k = G) w1 P G nm dl sp ys R (.slice none 0 0) [] wr) := HD.out.1
        have MY : Hid (May (xs.map nx) R) := HD.out.2.1
        have RB : Hid (RsB R.ps) := HD.out.2.2
        clear HD
        obtain ⟨_, ⟨c3, c4, c5⟩, _, ho, _⟩ := HM.out wr FR.out.bel
        by_cases hlt : i < tn
        · obtain ⟨g, off, q, hta, _, hsq, q0, q1, q2, q3, q4⟩ := ho.at (i := i) hlt
          have hta : ta = some ⟨g, off, none⟩ := hta
          subst hta
          have DO := hide (does_any FR.out.run FR.out.lt q hsq (EX.out R MY.out RB.out).2.1)
          have HSQ := hide hsq
          have HLT := hide hlt
          clear ho hsq
          go_wp2_with fail
          go_at_call 27
          refine DO.out.mono ?_
          rintro e wx ⟨v, rfl, _, hr, kx⟩
          have FX : Hid (Fr (fun k => k = P ∨ k = G) w1 P G nm dl sp ys (doR (xs.map nx) R q.k q.i q.res).2 (.slice none 0 0) [] wx) := FR.out.step kx (by rw [HMX.out] at hr; exact hr)
          have MX : Hid (May (xs.map nx) (doR (xs.map nx) R q.k q.i q.res).2) := do_may HB.out MY.out _ _ _
          have RX : Hid (RsB (doR (xs.map nx) R q.k q.i q.res).2.ps) := do_rsb RB.out HSQ.out.1.2.2.1
          clear hr kx DO
          go_wp2_with fail
          go_roundw
          · exact ⟨i + 1, _, rfl, by have := HLT.out; omega, FX.out, MX.out, RX.out⟩
          · show tn - ((i : Int) + 1).toNat < tn - (i : Int).toNat
            have := HLT.out; omega
        · obtain rfl : i = tn := by omega
          obtain ⟨how, hhow⟩ : ∃ how : Int, how = (if ex then 5 else 4) := ⟨_, rfl⟩
          have HHOW : Hid (how = 4 ∨ how = 5) := by
            show _ ∨ _
            cases ex
            · exact .inl hhow
            · exact .inr hhow
          have HEX := hide hhow
          obtain ⟨⟨c0, c1, c2⟩, _, _, _, _⟩ := HM.out wr FR.out.bel
          have hnl : n = ys.length := by rw [HN.out, HYL.out]
          have TD := hide (told_any FR.out.run (May.res (xs := ys) (by rw [HMX.out]; exact MY.out) RB.out))
          rw [← hnl] at TD
          clear ho hhow hnl hlt hi
          go_wp2_with fail
          go_at_call 12
          refine TD.out.mono ?_
          rintro e w7 ⟨v, rfl, ht, k7⟩
          have FR7 : Hid (Fr (fun k => k = P ∨ k = G) w1 P G nm dl sp ys R v R.ps w7) := FR.out.told k7 ht
          obtain ⟨va, vc, rfl, _⟩ := FR7.out.rdt (EX.out R MY.out RB.out).1
          have hpn : R.ps.length = n := by rw [HN.out]; exact (EX.out R MY.out RB.out).2.2
          rw [hpn] at FR7 ⊢
          have HPN := hide hpn
          have ST := hide (status_any FR7.out.run)
          clear ht k7 TD hpn FR c0 c1 c2 c3 c4 c5
          go_wp2_with fail
          go_at_call 14
          refine ST.out.mono ?_
          rintro e w7' ⟨rfl, hw⟩
          have hw := hw.symm
          subst hw
          clear ST
          obtain ⟨⟨c0, c1, c2⟩, ⟨_, c4, _⟩, _, _, _⟩ := HM.out w7 FR7.out.bel
          go_upto_if 95 with fail
          go_cut [14] from 94 to 315 (fun v wx => v = .int .i64 how ∧ wx = w7)
          case first => as_aux_lemma =>
            cases ex with
            | false =>
              obtain rfl := HEX.out
              go_wp2_with fail
              go_meet
              case rel => exact ⟨rfl, rfl⟩
            | true =>
              obtain rfl := HEX.out
              go_wp2_with fail
              go_meet
              case rel => exact ⟨rfl, rfl⟩
          case rest => as_aux_lemma =>
            obtain ⟨rfl, hwx⟩ := hcut
            have hwx := hwx.symm
            subst hwx
            clear c4 HEX
            have SP := hide (stop_any FR7.out.run FR7.out.lt how)
            by_cases hst : R.stt = 1
            case neg => as_aux_lemma =>
              rw [stop_no HHOW.out hst] at SP
              have hst' : (R.stt == 1) = false := by simpa using hst
              clear hst
              go_wp2_with fail
              go_at_call 20
              refine SP.out.mono ?_
              rintro e w8 ⟨v8, rfl, ⟨d8, sk8, r8, rfl, ld, lk, lr⟩, hr8, k8⟩
              obtain ⟨da, dn, dc⟩ := d8
              obtain ⟨ska, skn, skc⟩ := sk8
              obtain rfl : dn = 0 := ld.1.1
              obtain rfl : skn = 0 := lk.1.1
              have k9 := Keep.alloc (fun _ => False) w8 (.cells #[.slice da 0 dc, .slice ska 0 skc, .slice r8.1 r8.2.1 r8.2.2, .int .i64 Chg.none.stt] 31)
              have b9 := heap_alloc_new w8 (.cells #[.slice da 0 dc, .slice ska 0 skc, .slice r8.1 r8.2.1 r8.2.2, .int .i64 Chg.none.stt] 31)
              have FR9 := hide ((FR7.out.step k8 hr8).new k9)
              have HB9 := hide b9
              clear ld lk lr hr8 k8 k9 b9 SP FR7 c0 c1 c2
              simp only
              go_upto_region 19 with fail
              generalize hw9 : w8.alloc (.cells #[.slice da 0 dc, .slice ska 0 skc, .slice r8.1 r8.2.1 r8.2.2, .int .i64 Chg.none.stt] 31) = w9 at *
              generalize w8.heap.size = E at *
              clear hw9
              obtain ⟨⟨c0, c1, c2⟩, _, _, _, _⟩ := HM.out w9 FR9.out.bel
              have hnl : n = ys.length := by rw [HN.out, HYL.out]
              have TD := hide (told_any FR9.out.run (May.res (xs := ys) (by rw [HMX.out]; exact MY.out) RB.out))
              rw [← hnl] at TD
              clear hnl
              go_wp2_with fail
              go_at_call 12
              refine TD.out.mono ?_
              rintro e wA ⟨v, rfl, ht, kA⟩
              have FRA := hide (FR9.out.new kA)
              have FRB := hide (FR9.out.told kA ht)
              obtain ⟨ua, uc, rfl, hrt⟩ := FRB.out.rdt (EX.out R MY.out RB.out).1
              rw [HPN.out] at hrt ⊢
              have SN := hide (sameNodes_any (ua, n, uc) (va, n, vc) R.ps R.ps wA hrt (FRA.out.rdt2 (EX.out R MY.out RB.out).1) rfl (by have := (EX.out R MY.out RB.out).2.2; have := VX.out.1; omega))
              have HBA := hide (kA.blk HB9.out (fun f => f))
              clear ht kA hrt FRB FR9 HB9 TD c0 c1 c2
              go_wp2_with fail
              go_at_call 21
              refine SN.out.mono ?_
              rintro e wB ⟨⟨b, rfl, hb⟩, kB⟩
              obtain rfl : b = true := hb rfl
              have bB := kB.blk HBA.out (fun f => f)
              have e0 := cell_blk bB 0 (v := .slice da 0 dc) rfl
              have e1 := cell_blk bB 1 (v := .slice ska 0 skc) rfl
              have BE := hide (HM.out wB (FRA.out.new kB).bel).2.2.2.2
              clear kB bB hb SN
              go_wp2_with fail
              go_ret
              exact ⟨rfl, BE.out⟩
            case pos => as_aux_lemma =>
              rw [stop_all HHOW.out hst] at SP
              have hst' : (R.stt == 1) = true := by simpa using hst
              have MY2 : Hid (May (xs.map nx) ⟨how, R.ps.map stopP⟩) := by
                have := stop_may MY.out how
                rw [stop_all HHOW.out hst] at this
                exact this
              have RB2 : Hid (RsB (R.ps.map stopP)) := fun p hp d hd => by
                obtain ⟨q, hq, rfl⟩ := List.mem_map.1 hp
                exact RB.out q hq d hd
              clear hst
              go_wp2_with fail
              go_at_call 20
              refine SP.out.mono ?_
              rintro e w8 ⟨v8, rfl, ⟨d8, sk8, r8, rfl, ld, lk, lr⟩, hr8, k8⟩
              obtain ⟨ra, rn, rc⟩ := r8
              obtain rfl : rn = 0 := lr.1.1
              have k9 := Keep.alloc (fun _ => False) w8 (.cells #[.slice d8.1 d8.2.1 d8.2.2, .slice sk8.1 sk8.2.1 sk8.2.2, .slice ra 0 rc, .int .i64 how] 31)
              have b9 := heap_alloc_new w8 (.cells #[.slice d8.1 d8.2.1 d8.2.2, .slice sk8.1 sk8.2.1 sk8.2.2, .slice ra 0 rc, .int .i64 how] 31)
              have FR9 := hide ((FR7.out.step k8 hr8).new k9)
              have HB9 := hide b9
              have LD9 := hide (ld.keep k9 fun _ f => f.elim)
              have LK9 := hide (lk.keep k9 fun _ f => f.elim)
              clear ld lk lr hr8 k8 k9 b9 SP FR7 c0 c1 c2
              simp only
              go_upto_region 19 with fail
              generalize hw9 : w8.alloc (.cells #[.slice d8.1 d8.2.1 d8.2.2, .slice sk8.1 sk8.2.1 sk8.2.2, .slice ra 0 rc, .int .i64 how] 31) = w9 at *
              generalize w8.heap.size = E at *
              clear hw9
              obtain ⟨⟨c0, c1, c2⟩, _, _, _, _⟩ := HM.out w9 FR9.out.bel
              have hnl : n = ys.length := by rw [HN.out, HYL.out]
              have TD := hide (told_any FR9.out.run (May.res (xs := ys) (by rw [HMX.out]; exact MY2.out) RB2.out))
              rw [← hnl] at TD
              clear hnl
              go_wp2_with fail
              go_at_call 12
              refine TD.out.mono ?_
              rintro e wA ⟨v, rfl, ht, kA⟩
              have FRA := hide (FR9.out.new kA)
              have FRB := hide (FR9.out.told kA ht)
              obtain ⟨ua, uc, rfl, hrt⟩ := FRB.out.rdt (EX.out _ MY2.out RB2.out).1
              have hpn2 : (R.ps.map stopP).length = n := by rw [List.length_map]; exact HPN.out
              rw [hpn2] at hrt ⊢
              have HRT := hide hrt
              have HWS := hide (FRA.out.rdt2 (EX.out R MY.out RB.out).1)
              have HBA := hide (kA.blk HB9.out (fun f => f))
              have LD := hide (LD9.out.keep kA fun _ f => f.elim)
              have LK := hide (LK9.out.keep kA fun _ f => f.elim)
              clear ht kA hrt FRB FR9 HB9 TD c0 c1 c2 hpn2 LD9 LK9
              go_wp2_with fail
              go_loopw [20, 21, 22] (fun v20 v21 v22 wr => ∃ (j : Nat) (da sa : Option Addr) (dc sc : Nat), v20 = .slice da (deadI R.ps j).length dc ∧ v21 = .slice sa (skipI R.ps j).length sc ∧ v22 = .int .i64 (j : Nat) ∧ j ≤ n ∧ Hid (LpI wA R.ps j da dc sa sc wr)) (fun _ _ v22 _ => n - (intOf v22).toNat)
              case atStart => exact ⟨0, none, none, 0, 0, rfl, rfl, rfl, Nat.zero_le _, LpI.start _ _⟩
              case round => as_aux_lemma =>
                obtain ⟨j, da, sa, dc, sc, rfl, rfl, rfl, hj, LP⟩ := hrel
                by_cases hlt : j < n
                · as_aux_lemma =>
                  obtain ⟨g1, o1, p, mp, hs1, hp, p0, p1, p4, prd⟩ := (HWS.out.new LP.out.kp).at (i := j) (by have := HPN.out; omega)
                  have hs1 : va = some ⟨g1, o1, none⟩ := hs1
                  subst hs1
                  have HP := hide hp
                  have HLT := hide hlt
                  have hp7 := MY.out.st7 hp
                  clear hp prd p1 p4
                  go_upto_block 4 with fail
                  go_cut [20, 21, 24] from 163 to 212 (fun v20 v21 v24 wx => LpE wA R.ps j p.st v20 v21 v24 wx)
                  case first => as_aux_lemma =>
                    by_cases h1 : p.st = 1
                    · as_aux_lemma =>
                        have HS1 := hide h1
                        have h1' : (p.st == 1) = true := by simpa using h1
                        clear h1 hp7
                        have hl1 := skipI_len R.ps j
                        have k6 := Keep.alloc (fun _ => False) wr (.cells #[.int .i64 (j : Int)] 3)
                        have hone := cell_one wr (.int .i64 (j : Int)) 3
                        have HO6 := hide (ownsRow_new LP.out.os k6)
                        have hzz : wA.heap.size ≤ (wr.alloc (.cells #[.int .i64 (j : Int)] 3)).heap.size := (LP.out.kp.more k6).size
                        have LS := hide (fun v' w7 => LP.out.skip (v' := v') (w7 := w7) HP.out HS1.out)
                        have hjb : j < 64 := by have := HLT.out; have := (EX.out R MY.out RB.out).2.2; have := VX.out.1; have := HPN.out; omega
                        clear k6
                        go_wp2_with (at_builtin; refine wp_append1 rfl _ _ rfl wA.heap.size _ (skipI R.ps j).length (iv (skipI R.ps j)) rfl HO6.out ⟨wr.heap.size, 0, none⟩ (j : Int) rfl hone (by omega) hzz ?_; intro v' w7 ho7 hg7 hnb7; obtain ⟨na, nc, hv'⟩ := ownsRow_shape ho7; subst hv'; have HL7 := hide (LS.out _ _ ho7 hg7 hnb7); clear ho7 hg7 hnb7)
                        go_meet
                        case rel => exact HL7.out
                    · have h1' : (p.st == 1) = false := by simpa using h1
                      by_cases h2 : p.st = 2 ∨ p.st = 3 ∨ p.st = 4
                      · as_aux_lemma =>
                        have HS1 := hide h2
                        clear hp7
                        rcases h2 with h2 | h2 | h2
                        · as_aux_lemma =>
                          have hx1 : (p.st == 2) = true := by simpa using h2
                          clear h2 h1
                          have hl1 := deadI_len R.ps j
                          have k6 := Keep.alloc (fun _ => False) wr (.cells #[.int .i64 (j : Int)] 3)
                          have hone := cell_one wr (.int .i64 (j : Int)) 3
                          have HO6 := hide (ownsRow_new LP.out.od k6)
                          have hzz : wA.heap.size ≤ (wr.alloc (.cells #[.int .i64 (j : Int)] 3)).heap.size := (LP.out.kp.more k6).size
                          have LS := hide (fun v' w7 => LP.out.dead (v' := v') (w7 := w7) HP.out HS1.out)
                          have hjb : j < 64 := by have := HLT.out; have := (EX.out R MY.out RB.out).2.2; have := VX.out.1; have := HPN.out; omega
                          clear k6
                          go_wp2_with (at_builtin; refine wp_append1 rfl _ _ rfl wA.heap.size _ (deadI R.ps j).length (iv (deadI R.ps j)) rfl HO6.out ⟨wr.heap.size, 0, none⟩ (j : Int) rfl hone (by omega) hzz ?_; intro v' w7 ho7 hg7 hnb7; obtain ⟨na, nc, hv'⟩ := ownsRow_shape ho7; subst hv'; have HL7 := hide (LS.out _ _ ho7 hg7 hnb7); clear ho7 hg7 hnb7)
                          go_meet
                          case rel => exact HL7.out
                        · as_aux_lemma =>
                          have hx1 : (p.st == 3) = true := by simpa using h2
                          have hx2 : (p.st == 2) = false := by rw [h2]; rfl
                          clear h2 h1
                          have hl1 := deadI_len R.ps j
                          have k6 := Keep.alloc (fun _ => False) wr (.cells #[.int .i64 (j : Int)] 3)
                          have hone := cell_one wr (.int .i64 (j : Int)) 3
                          have HO6 := hide (ownsRow_new LP.out.od k6)
                          have hzz : wA.heap.size ≤ (wr.alloc (.cells #[.int .i64 (j : Int)] 3)).heap.size := (LP.out.kp.more k6).size
                          have LS := hide (fun v' w7 => LP.out.dead (v' := v') (w7 := w7) HP.out HS1.out)
                          have hjb : j < 64 := by have := HLT.out; have := (EX.out R MY.out RB.out).2.2; have := VX.out.1; have := HPN.out; omega
                          clear k6
                          go_wp2_with (at_builtin; refine wp_append1 rfl _ _ rfl wA.heap.size _ (deadI R.ps j).length (iv (deadI R.ps j)) rfl HO6.out ⟨wr.heap.size, 0, none⟩ (j : Int) rfl hone (by omega) hzz ?_; intro v' w7 ho7 hg7 hnb7; obtain ⟨na, nc, hv'⟩ := ownsRow_shape ho7; subst hv'; have HL7 := hide (LS.out _ _ ho7 hg7 hnb7); clear ho7 hg7 hnb7)
                          go_meet
                          case rel => exact HL7.out
                        · as_aux_lemma =>
                          have hx1 : (p.st == 4) = true := by simpa using h2
                          have hx2 : (p.st == 2) = false := by rw [h2]; rfl
                          have hx3 : (p.st == 3) = false := by rw [h2]; rfl
                          clear h2 h1
                          have hl1 := deadI_len R.ps j
                          have k6 := Keep.alloc (fun _ => False) wr (.cells #[.int .i64 (j : Int)] 3)
                          have hone := cell_one wr (.int .i64 (j : Int)) 3
                          have HO6 := hide (ownsRow_new LP.out.od k6)
                          have hzz : wA.heap.size ≤ (wr.alloc (.cells #[.int .i64 (j : Int)] 3)).heap.size := (LP.out.kp.more k6).size
                          have LS := hide (fun v' w7 => LP.out.dead (v' := v') (w7 := w7) HP.out HS1.out)
                          have hjb : j < 64 := by have := HLT.out; have := (EX.out R MY.out RB.out).2.2; have := VX.out.1; have := HPN.out; omega
                          clear k6
                          go_wp2_with (at_builtin; refine wp_append1 rfl _ _ rfl wA.heap.size _ (deadI R.ps j).length (iv (deadI R.ps j)) rfl HO6.out ⟨wr.heap.size, 0, none⟩ (j : Int) rfl hone (by omega) hzz ?_; intro v' w7 ho7 hg7 hnb7; obtain ⟨na, nc, hv'⟩ := ownsRow_shape ho7; subst hv'; have HL7 := hide (LS.out _ _ ho7 hg7 hnb7); clear ho7 hg7 hnb7)
                          go_meet
                          case rel => exact HL7.out
                      · as_aux_lemma =>
                        have h2' : (p.st == 2) = false := by simpa using fun h => h2 (.inl h)
                        have h3' : (p.st == 3) = false := by simpa using fun h => h2 (.inr (.inl h))
                        have h4' : (p.st == 4) = false := by simpa using fun h => h2 (.inr (.inr h))
                        have HS1 : Hid (p.st = 5 ∨ p.st = 6 ∨ p.st = 7) := by show _ ∨ _; omega
                        have HL7 := hide (LP.out.stay HP.out HS1.out)
                        clear h1 h2 hp7
                        go_wp2_with fail
                        go_meet
                        case rel => exact HL7.out
                  case rest => as_aux_lemma =>
                    obtain ⟨da', sa', dc', sc', rfl, rfl, rfl, hL⟩ := hcut
                    have LQ := hide hL
                    obtain ⟨g1', o1', mp, hs1, _, p1, p4, z1⟩ := td_cells (HWS.out.new LQ.out.kp) HP.out
                    obtain ⟨g2, o2, mq, hs2, q0, q1, q4, z2⟩ := td_stop (HRT.out.new LQ.out.kp) HP.out
                    have hs2 : ua = some ⟨g2, o2, none⟩ := hs2
                    subst hs2
                    simp only [Option.some.injEq, Addr.mk.injEq, and_true] at hs1
                    obtain ⟨rfl, rfl⟩ := hs1
                    have hjn : j < n := HLT.out
                    have hnb : n ≤ 64 := by have := VX.out.1; have := HN.out; omega
                    clear p0 hL
                    generalize str p.rs = u1 at *
                    go_upto_region 41 with fail
                    go_quiet (fail)
                    clear z1 z2 p1 p4 q0 q1 q4
                    go_wp2
                    go_roundw
                    · exact ⟨j + 1, da', sa', dc', sc', rfl, rfl, rfl, by have := HLT.out; omega, LQ.out.more (keep_drewN _ _)⟩
                    · show n - ((j : Int) + 1).toNat < n - (j : Int).toNat
                      have := HLT.out; omega
                · as_aux_lemma =>
                  obtain rfl : j = n := by omega
                  have hdl : deadL R.ps = deadI R.ps j := by unfold deadL deadI; rw [HPN.out]
                  have hsl : skipL R.ps = skipI R.ps j := by unfold skipL skipI; rw [HPN.out]
                  have FR1 := hide (FRA.out.new LP.out.kp)
                  have hb0 := LP.out.kp.blk HBA.out (fun f => f)
                  have HB0 := hide hb0
                  have e0 := cell_blk hb0 0 (v := .slice d8.1 d8.2.1 d8.2.2) rfl
                  have hdb := deadI_len R.ps j
                  have hsb := skipI_len R.ps j
                  have hj64 : j ≤ 64 ∧ 1 ≤ j := by
                    have := VX.out.1
                    have := HN.out
                    have h1 := FRA.out.run.n1
                    have := HYL.out
                    omega
                  have R1 : Hid (∀ W, Keep (fun _ => False) wr W → RdZ W.heap.size W d8 ((deadI R.ps j).map fun x : Nat => (x : Int)) ∧ RdZ W.heap.size W (da, (deadI R.ps j).length, dc) ((deadI R.ps j).map fun x : Nat => (x : Int)) ∧ RdZ W.heap.size W sk8 ((skipI R.ps j).map fun x : Nat => (x : Int)) ∧ RdZ W.heap.size W (sa, (skipI R.ps j).length, sc) ((skipI R.ps j).map fun x : Nat => (x : Int))) := fun W k => by
                    have l1 := (LD.out.keep (LP.out.kp.more k) fun _ f => f.elim).1
                    have l2 := (LK.out.keep (LP.out.kp.more k) fun _ f => f.elim).1
                    simp only [hdl, hsl] at l1 l2
                    obtain ⟨a1, c1, e1, r1⟩ := ownsRow_rd (ownsRow_new LP.out.od k) (by omega)
                    obtain ⟨a2, c2, e2, r2⟩ := ownsRow_rd (ownsRow_new LP.out.os k) (by omega)
                    injection e1 with e11 _ e12
                    injection e2 with e21 _ e22
                    subst e11 e12 e21 e22
                    exact ⟨l1, r1, l2, r2⟩
                  have EN := hide (fun (i : Nat) (hi : i < j) => ended_steps (xs := ys.map nx) (R := ⟨how, R.ps.map stopP⟩) (stop_set R.ps) (by show how ≠ 1; rcases HHOW.out with h | h <;> omega) (i := i) (by rw [List.length_map, HPN.out]; exact hi))
                  have EPG : Hid (¬ (E = P ∨ E = G)) := fun h => by
                    obtain ⟨_, h1⟩ := FR1.out.run.blk
                    obtain ⟨_, h2⟩ := FR1.out.run.prt
                    rcases h with rfl | rfl
                    · rw [HB0.out] at h1; injection h1 with e; injection e with _ e _; exact absurd e (by decide)
                    · rw [HB0.out] at h2; injection h2 with e; injection e with _ e _; exact absurd e (by decide)
                  have HWA : Hid (w1.heap.size ≤ wr.heap.size) := FR1.out.bel.size
                  have SI := hide (sameInts_any d8 (da, (deadI R.ps j).length, dc) _ wr (R1.out wr (Keep.refl _ _)).1 (R1.out wr (Keep.refl _ _)).2.1)
                  have HJ := hide hj64
                  clear hdl hsl hdb hsb hlt LP FRA HBA hb0 hj64 hj
                  go_wp2_with fail
                  go_at_call 31
                  refine SI.out.mono ?_
                  rintro e wq ⟨rfl, kq⟩
                  have FR2 := hide (FR1.out.new kq)
                  have hb0 := kq.blk HB0.out (fun f => f)
                  have e1 := cell_blk hb0 1 (v := .slice sk8.1 sk8.2.1 sk8.2.2) rfl
                  have HB1 := hide hb0
                  have SI := hide (sameInts_any sk8 (sa, (skipI R.ps j).length, sc) _ wq (R1.out wq kq).2.2.1 (R1.out wq kq).2.2.2)
                  clear e0 hb0 kq FR1 HB0
                  go_wp2_with fail
                  go_at_call 31
                  refine SI.out.mono ?_
                  rintro e wn ⟨rfl, kq⟩
                  have FR1 := hide (FR2.out.new kq)
                  have hb0 := kq.blk HB1.out (fun f => f)
                  have HBE := hide hb0
                  obtain ⟨_, ⟨_, _, c5⟩, _, _, _⟩ := HM.out wn FR1.out.bel
                  have PK := hide (pick_any nd j HND.out.1 HND.out.2 HJ.out.2 HJ.out.1 wn)
                  clear hb0 kq FR2 HB1 e1 SI R1
                  go_wp2_with fail
                  go_at_call 26
                  refine PK.out.mono ?_
                  rintro e wn' ⟨⟨k, rfl, hk⟩, hw⟩
                  have hw := hw.symm
                  subst hw
                  have EN := hide (EN.out k hk)
                  have LE := hide (lease_any FR1.out.run (k : Int) (EX.out _ MY2.out RB2.out).2.1)
                  rw [EN.out.1] at LE
                  clear PK c5 hk
                  go_wp2_with fail
                  go_at_call 15
                  refine LE.out.mono ?_
                  rintro e wq ⟨rfl, hrq, kq⟩
                  have FR2 := hide (FR1.out.step (kq.mono fun _ h => .inr h) hrq)
                  have hbq := kq.blk HBE.out (fun f => EPG.out (.inr f))
                  have HBE := hide hbq
                  clear LE hrq kq FR1 hbq
                  have CC := hide (finish_any FR2.out.run FR2.out.lt (k : Int) none 0 0 [] ⟨rfl, by decide, (fun d hd => by cases hd), .inl rfl⟩ (fun _ => rfl) (by decide))
                  rw [EN.out.2.1] at CC
                  go_wp2_with fail
                  go_at_call 16
                  refine CC.out.mono ?_
                  rintro e wq ⟨vq, rfl, ⟨dq, sq, rq, rfl, _, _, _⟩, hrq, kq⟩
                  have FR3 := hide ((FR2.out.step kq hrq).new (Keep.alloc (fun _ => False) wq (.cells #[.slice dq.1 dq.2.1 dq.2.2, .slice sq.1 sq.2.1 sq.2.2, .slice rq.1 rq.2.1 rq.2.2, .int .i64 Chg.none.stt] 31)))
                  have hbq := (Keep.alloc (fun _ => False) wq (.cells #[.slice dq.1 dq.2.1 dq.2.2, .slice sq.1 sq.2.1 sq.2.2, .slice rq.1 rq.2.1 rq.2.2, .int .i64 Chg.none.stt] 31)).blk (kq.blk HBE.out (fun f => EPG.out f)) (fun f => f)
                  have HBE := hide hbq
                  clear CC hrq kq FR2 hbq
                  simp only
                  go_upto_region 48 with fail
                  generalize wq.alloc (.cells #[.slice dq.1 dq.2.1 dq.2.2, .slice sq.1 sq.2.1 sq.2.2, .slice rq.1 rq.2.1 rq.2.2, .int .i64 Chg.none.stt] 31) = wn at *
                  have CC := hide (miss_any FR3.out.run FR3.out.lt (k : Int))
                  rw [EN.out.2.2.1] at CC
                  go_wp2_with fail
                  go_at_call 18
                  refine CC.out.mono ?_
                  rintro e wq ⟨vq, rfl, ⟨dq, sq, rq, rfl, _, _, _⟩, hrq, kq⟩
                  have FR4 := hide ((FR3.out.step kq hrq).new (Keep.alloc (fun _ => False) wq (.cells #[.slice dq.1 dq.2.1 dq.2.2, .slice sq.1 sq.2.1 sq.2.2, .slice rq.1 rq.2.1 rq.2.2, .int .i64 Chg.none.stt] 31)))
                  have hbq := (Keep.alloc (fun _ => False) wq (.cells #[.slice dq.1 dq.2.1 dq.2.2, .slice sq.1 sq.2.1 sq.2.2, .slice rq.1 rq.2.1 rq.2.2, .int .i64 Chg.none.stt] 31)).blk (kq.blk HBE.out (fun f => EPG.out f)) (fun f => f)
                  have HBE := hide hbq
                  clear CC hrq kq FR3 hbq
                  simp only
                  go_upto_region 49 with fail
                  generalize wq.alloc (.cells #[.slice dq.1 dq.2.1 dq.2.2, .slice sq.1 sq.2.1 sq.2.2, .slice rq.1 rq.2.1 rq.2.2, .int .i64 Chg.none.stt] 31) = wn at *
                  have CC := hide (wake_any FR4.out.run FR4.out.lt (k : Int))
                  rw [EN.out.2.2.2.1] at CC
                  go_wp2_with fail
                  go_at_call 19
                  refine CC.out.mono ?_
                  rintro e wq ⟨vq, rfl, ⟨dq, sq, rq, rfl, _, _, _⟩, hrq, kq⟩
                  have FR5 := hide ((FR4.out.step kq hrq).new (Keep.alloc (fun _ => False) wq (.cells #[.slice dq.1 dq.2.1 dq.2.2, .slice sq.1 sq.2.1 sq.2.2, .slice rq.1 rq.2.1 rq.2.2, .int .i64 Chg.none.stt] 31)))
                  have hbq := (Keep.alloc (fun _ => False) wq (.cells #[.slice dq.1 dq.2.1 dq.2.2, .slice sq.1 sq.2.1 sq.2.2, .slice rq.1 rq.2.1 rq.2.2, .int .i64 Chg.none.stt] 31)).blk (kq.blk HBE.out (fun f => EPG.out f)) (fun f => f)
                  have HBE := hide hbq
                  clear CC hrq kq FR4 hbq
                  simp only
                  go_upto_region 50 with fail
                  generalize wq.alloc (.cells #[.slice dq.1 dq.2.1 dq.2.2, .slice sq.1 sq.2.1 sq.2.2, .slice rq.1 rq.2.1 rq.2.2, .int .i64 Chg.none.stt] 31) = wn at *
                  have CC := hide (stop_any FR5.out.run FR5.out.lt 4)
                  rw [EN.out.2.2.2.2.1] at CC
                  go_wp2_with fail
                  go_at_call 20
                  refine CC.out.mono ?_
                  rintro e wq ⟨vq, rfl, ⟨dq, sq, rq, rfl, _, _, _⟩, hrq, kq⟩
                  have FR6 := hide ((FR5.out.step kq hrq).new (Keep.alloc (fun _ => False) wq (.cells #[.slice dq.1 dq.2.1 dq.2.2, .slice sq.1 sq.2.1 sq.2.2, .slice rq.1 rq.2.1 rq.2.2, .int .i64 Chg.none.stt] 31)))
                  have hbq := (Keep.alloc (fun _ => False) wq (.cells #[.slice dq.1 dq.2.1 dq.2.2, .slice sq.1 sq.2.1 sq.2.2, .slice rq.1 rq.2.1 rq.2.2, .int .i64 Chg.none.stt] 31)).blk (kq.blk HBE.out (fun f => EPG.out f)) (fun f => f)
                  have HBE := hide hbq
                  clear CC hrq kq FR5 hbq
                  simp only
                  go_upto_region 51 with fail
                  generalize wq.alloc (.cells #[.slice dq.1 dq.2.1 dq.2.2, .slice sq.1 sq.2.1 sq.2.2, .slice rq.1 rq.2.1 rq.2.2, .int .i64 Chg.none.stt] 31) = wn at *
                  have IN := hide (inputs_no FR6.out.run (k : Int) (by rw [EN.out.2.2.2.2.2]; decide))
                  rw [EN.out.2.2.2.2.2] at IN
                  go_wp2_with fail
                  go_at_call 32
                  refine IN.out.mono ?_
                  rintro e wq ⟨rfl, kq⟩
                  have FR7 := hide (FR6.out.new kq)
                  have hbq := kq.blk HBE.out (fun f => f)
                  have e2 := cell_blk hbq 2 (v := .slice ra 0 rc) rfl
                  have e3 := cell_blk hbq 3 (v := .int .i64 how) rfl
                  have ST := hide (status_any FR7.out.run)
                  have BE := hide (HM.out wq FR7.out.bel).2.2.2.2
                  clear IN kq FR6 hbq FR7 HBE
                  go_wp2_with fail
                  go_at_call 14
                  refine ST.out.mono ?_
                  rintro e wz ⟨rfl, hw⟩
                  subst hw
                  clear ST
                  go_wp2_with fail
                  go_ret
                  exact ⟨rfl, BE.out⟩
end Rn
end Go.Proofs.Ytcgkkhkpimjlmaa
