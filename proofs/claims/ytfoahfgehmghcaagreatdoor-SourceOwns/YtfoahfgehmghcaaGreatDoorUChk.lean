import Derived.Test.YtfoahfgehmghcaaGreatDoorUMod
import Derived.Test.YtfoahfgehmghcaaGreatDoorULa2
/- What Check tells, in its three cases. -/
namespace Go.Proofs.YtfoahfgehmghcaaGreatDoor
namespace Gr
open Go.RowKit

theorem cyc_is (xs : List No) : IsCyc (eg xs) (cyc xs) := by
  have hE : ∃ c, IsCyc (eg xs) c := by
    by_cases hc : ∃ x, Waits (eg xs) x x
    · obtain ⟨x, hx⟩ := hc
      obtain ⟨m, h1, h2, h3⟩ := cycle_least hx
      exact ⟨m + 1, .inr ⟨m, rfl, h2.waits, h3⟩⟩
    · exact ⟨0, .inl ⟨rfl, fun x hx => hc ⟨x, hx⟩⟩⟩
  obtain ⟨c, hc⟩ := hE
  rw [cyc_eq hc]; exact hc
theorem waits_lt {xs : List No} {a b : Nat} (h : Waits (eg xs) a b) : a < xs.length := by
  refine Nat.lt_of_not_le fun hl => ?_
  have he := eg_out hl
  rcases h.cases with h | ⟨x, h, _⟩
  · rw [he] at h; cases h
  · rw [he] at h; cases h
theorem cN_code {n : Nat} : ∀ {xs : List No} {i : Nat} {seen : List ByteArray}, (cN n i seen xs).2 ≠ 106 := by
  intro xs
  induction xs with
  | nil => intro i seen h; cases h
  | cons y xs ih =>
    intro i seen
    unfold cN
    split
    · simp
    · split
      · simp
      · split
        · simp
        · exact ih
theorem cW_code (nm : ByteArray) (dl : Int) (xs : List No) : cW nm dl xs ≠ 106 := by
  unfold cW
  split
  · simp
  · split
    · simp
    · split <;> simp
theorem chk_cases (nm : ByteArray) (dl : Int) (xs : List No) :
    (chk nm dl xs = (0, 0) ∧ 1 ≤ xs.length ∧ Val xs ∧ ∀ x, ¬ Waits (eg xs) x x) ∨
    (∃ m, chk nm dl xs = (m + 1, 106) ∧ m < xs.length ∧ Val xs ∧ Waits (eg xs) m m ∧ ∀ x, Waits (eg xs) x x → m ≤ x) ∨
    ((chk nm dl xs).2 ≠ 0 ∧ (chk nm dl xs).2 ≠ 106 ∧ (chk nm dl xs).1 ≤ xs.length) := by
  unfold chk
  by_cases c1 : cW nm dl xs ≠ 0
  · rw [if_pos c1]
    exact .inr (.inr ⟨c1, cW_code _ _ _, Nat.zero_le _⟩)
  · rw [if_neg c1]
    have c1 : cW nm dl xs = 0 := by simpa using c1
    by_cases c2 : (cN xs.length 0 [] xs).2 ≠ 0
    · rw [if_pos c2]
      have := cN_le (n := xs.length) (xs := xs) (i := 0) (seen := [])
      exact .inr (.inr ⟨c2, cN_code, by omega⟩)
    · rw [if_neg c2]
      have c2 : (cN xs.length 0 [] xs).2 = 0 := by simpa using c2
      have hv := cN_val (cW_len c1).2 c2
      have hc := cyc_is xs
      generalize cyc xs = c at *
      rcases hc with ⟨rfl, h⟩ | ⟨m, rfl, h1, h2⟩
      · rw [if_neg (by simp)]
        exact .inl ⟨rfl, (cW_len c1).1, hv, h⟩
      · rw [if_pos (by simp)]
        exact .inr (.inl ⟨m, rfl, waits_lt h1, hv, h1, h2⟩)
end Gr
end Go.Proofs.YtfoahfgehmghcaaGreatDoor

/- Package source: Check of what was read. -/
namespace Go.Proofs.YtfoahfgehmghcaaGreatDoor
namespace U
open Go.RowKit

theorem fOk_er (x : Gr.No) : Gr.fOk (er x).q = Gr.fOk x.q := rfl
theorem cN_er (n : Nat) : ∀ (xs : List Gr.No) (i : Nat) (seen : List ByteArray), Gr.cN n i seen (xs.map er) = Gr.cN n i seen xs
  | [], _, _ => rfl
  | x :: xs, i, seen => by
    rw [List.map_cons]
    unfold Gr.cN
    rw [cN_er n xs]
    rfl
theorem eg_er (xs : List Gr.No) : Gr.eg (xs.map er) = Gr.eg xs := by
  funext i
  unfold Gr.eg
  rw [List.getElem?_map]
  cases xs[i]? <;> rfl
theorem edges_er (xs : List Gr.No) : Gr.edges (xs.map er) = Gr.edges xs := by
  unfold Gr.edges
  rw [List.map_map]
  rfl
theorem chk_er (nm : ByteArray) (dl : Int) (xs : List Gr.No) : Gr.chk nm dl (xs.map er) = Gr.chk nm dl xs := by
  have h1 : Gr.cW nm dl (xs.map er) = Gr.cW nm dl xs := by
    unfold Gr.cW
    rw [edges_er, List.length_map]
  have h2 : Gr.cyc (xs.map er) = Gr.cyc xs := by
    unfold Gr.cyc
    rw [eg_er]
  unfold Gr.chk
  rw [h1, h2, List.length_map, cN_er]

/-- what check leaves -/
def ChkEnd (d : Dr) (c : Nat × Nat) (w : World) (e : Ending) (w' : World) : Prop :=
  Below w.heap.size w w' ∧ ((c.2 = 0 ∧ e = .returned .nilIface) ∨ (c.2 ≠ 0 ∧ ∃ v, e = .returned v ∧ ErrAt w' v (if c.1 = 0 then d.place else d.places.getD (c.1 - 1) 0) c.2))
theorem chk_le (nm : ByteArray) (dl : Int) (xs : List Gr.No) : (Gr.chk nm dl xs).1 ≤ xs.length := by
  rcases Gr.chk_cases nm dl xs with ⟨h, _⟩ | ⟨m, h, hm, _⟩ | ⟨_, _, h⟩
  · rw [h]; simp
  · rw [h]; exact hm
  · exact h
theorem chk_code (nm : ByteArray) (dl : Int) (xs : List Gr.No) : (Gr.chk nm dl xs).2 = 0 → (Gr.chk nm dl xs).1 = 0 := by
  rcases Gr.chk_cases nm dl xs with ⟨h, _⟩ | ⟨m, h, hm, _⟩ | ⟨h, _, _⟩
  · rw [h]; simp
  · rw [h]; simp
  · intro e; exact absurd e h

set_option maxHeartbeats 2000000 in
theorem check_any (B D : Nat) (d : Dr) (nds : List Pn) (va : Option Addr) (vc : Nat) (vp vm : Value) (w : World) (hb : w.heap[D]? = some (.cells (drow d (.slice va nds.length vc) vp vm).toArray 87 (0, 0))) (hn : NdsAt B w (.slice va nds.length vc) nds) (hp : w.ownsRow B 3 1 vp d.places.length (ivs d.places)) (hl : nds.length ≤ 1000000) (hpl : nds.length ≤ d.places.length) (hpb : d.places.length ≤ 1000000) (hnm : d.nm.length ≤ 65536) (hnn : ∀ x ∈ nds, x.nm.length ≤ 65536) :
    Calls Tryz.prog 40 #[.pointer (some ⟨D, 0, none⟩)] w (ChkEnd d (Gr.chk (ba d.nm) d.dl (nds.map no)) w) := by
  obtain ⟨xs, hxs, hrp⟩ := hn.rd hl
  have hxl : xs.length = nds.length := by have := congrArg List.length hxs; simpa using this
  have CK := hide (Gr.check_any (ba d.nm) d.dl (va, nds.length, vc) xs w.heap.size w hrp (Nat.le_refl _) ⟨by rw [ba_size]; omega, fun x hx => by
    have : er x ∈ xs.map er := List.mem_map_of_mem hx
    rw [hxs] at this
    obtain ⟨p, hp, he⟩ := List.mem_map.1 this
    have e1 : x.q.nm = ba p.nm := (congrArg (fun y : Gr.No => y.q.nm) he).symm
    rw [e1, ba_size]
    have := hnn p hp
    omega⟩)
  rw [← chk_er, hxs] at CK
  have hcl := chk_le (ba d.nm) d.dl (nds.map no)
  rw [List.length_map] at hcl
  have HCC := hide (chk_code (ba d.nm) d.dl (nds.map no))
  generalize Gr.chk (ba d.nm) d.dl (nds.map no) = c at *
  obtain ⟨c1, c2⟩ := c
  simp only at *
  obtain ⟨pa, pc, rfl⟩ := own_shape hp
  have HP := hide hp
  have HB := hide hb
  have d0 := cell_blk hb 0 (v := .string (ba d.nm)) rfl
  have d1 := cell_blk hb 1 (v := .int .i64 d.dl) rfl
  have d2 := cell_blk hb 2 (v := .slice va nds.length vc) rfl
  clear hb hn hp hrp hxs hxl
  go_enter Tryz.func40, Tryz.ntmps40
  go_wp2_with fail
  go_at_call 14
  refine CK.out.mono ?_
  rintro e w1 ⟨rfl, k1⟩
  have B1 : Hid (Below w.heap.size w w1) := k1.below (Nat.le_refl _) (fun _ f => f.elim)
  have hb1 := k1.blk HB.out (fun f => f)
  have P1 := hide (own_below HP.out B1.out)
  have d3 := cell_blk hb1 3 (v := .int .i64 (d.place : Int)) rfl
  have d4 := cell_blk hb1 4 (v := .slice pa d.places.length pc) rfl
  clear k1 hb1 CK HB HP d0 d1 d2
  by_cases h2 : c2 = 0
  · subst h2
    go_wp2_with fail
    go_ret
    exact ⟨B1.out, .inl ⟨rfl, rfl⟩⟩
  · have h2' : ((c2 : Int) == 0) = false := by simp; omega
    by_cases h1 : c1 = 0
    · subst h1
      go_wp2_with fail
      go_ret
      have hb := (Below.refl w1.heap.size w1).alloc (Nat.le_refl _) (.cells #[.int .i64 (d.place : Int), .int .i64 (c2 : Int)] 57)
      exact ⟨B1.out.trans (hb.mono B1.out.size), .inr ⟨h2, _, rfl, by rw [if_pos rfl]; exact err_new w1 d.place c2⟩⟩
    · have h1' : ((c1 : Int) == 0) = false := by simp; omega
      obtain ⟨k, rfl⟩ : ∃ k, c1 = k + 1 := ⟨c1 - 1, by omega⟩
      have hw : IntKind.i64.wrap (((k + 1 : Nat) : Int) - 1) = (k : Int) := by rw [IntKind.wrap_i64]; omega
      have hk : (k : Int) < (d.places.length : Int) := by omega
      have hk0 : (0 : Int) ≤ (k : Int) := by omega
      obtain ⟨q, hq⟩ : ∃ q, d.places[k]? = some q := ⟨_, List.getElem?_eq_getElem (by omega)⟩
      obtain ⟨g, rfl, dq⟩ : ∃ g, pa = some ⟨g, 0, none⟩ ∧ w1.cell? ⟨g, k, none⟩ = some (.int .i64 (q : Int)) := by
        rcases P1.out.2 with ⟨_, e2⟩ | ⟨g, cap, cur, e1, e2, e3, e4, e5, e6, e7⟩
        · omega
        · injection e1 with e1
          refine ⟨g, e1, ?_⟩
          have h8 : (ivs d.places)[k]? = some (.int .i64 (q : Int)) := by simp [ivs, hq]
          rw [← e7, List.getElem?_take] at h8
          split at h8
          · exact cell_blk e3 _ (by simpa using h8)
          · cases h8
      have HQ : Hid (d.places.getD (k + 1 - 1) 0 = q) := by show _ = _; simp [List.getD, hq]
      clear hq h1
      have HH1 := hide h1'
      rw [show ((k + 1 : Nat) : Int) = (k : Int) + 1 by omega] at hw h1'
      go_wp2_with fail
      go_ret
      have hb := (Below.refl w1.heap.size w1).alloc (Nat.le_refl _) (.cells #[.int .i64 (q : Int), .int .i64 (c2 : Int)] 57)
      exact ⟨B1.out.trans (hb.mono B1.out.size), .inr ⟨h2, _, rfl, by rw [if_neg (by omega), HQ.out]; exact err_new w1 q c2⟩⟩
end U
end Go.Proofs.YtfoahfgehmghcaaGreatDoor
