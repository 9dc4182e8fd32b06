/- Package source's laws: known. -/
import Derived.Test.YtnhmmplheihojaaGreatDoorUTx5
import Derived.Test.YtnhmmplheihojaaGreatDoorUPar
import Derived.Test.YtnhmmplheihojaaGreatDoorGCyk
namespace Go.Proofs.YtnhmmplheihojaaGreatDoor
namespace U
open Go.RowKit

def tK : List UInt8 := [112, 108, 97, 110, 32, 112, 32, 100, 101, 97, 100, 108, 105, 110, 101, 32, 49, 48, 48, 10, 110, 111, 100, 101, 32, 97, 32, 108, 97, 110, 101, 32, 48, 32, 98, 117, 100, 103, 101, 116, 32, 50, 32, 99, 108, 111, 115, 101, 32, 49, 48, 10, 110, 111, 100, 101, 32, 98, 32, 108, 97, 110, 101, 32, 49, 32, 98, 117, 100, 103, 101, 116, 32, 49, 32, 99, 108, 111, 115, 101, 32, 53, 32, 98, 101, 97, 116, 32, 50, 32, 98, 97, 99, 107, 111, 102, 102, 32, 52, 32, 116, 111, 32, 56, 32, 106, 105, 116, 116, 101, 114, 32, 51, 10, 32, 32, 110, 101, 101, 100, 115, 32, 97, 10]
def tKn : List UInt8 := [110, 101, 101, 100, 115, 32, 97]
def nKa : Pn := ⟨[97], 0, 2, 10, 0, 1, 1, 0, [], []⟩
def nKb : Pn := ⟨[98], 1, 1, 5, 2, 4, 8, 3, [], []⟩
def nKc : Pn := ⟨[98], 1, 1, 5, 2, 4, 8, 3, [0], []⟩
def dK : Dr := ⟨[112], 100, [nKa, nKb], 1, [2, 3], true, false, [⟨4, 1, 0, [[97]]⟩]⟩
set_option maxRecDepth 100000 in
theorem readK : readL 1 (splitOn 10 tK) Dr.new = .inr dK := by kernel_rfl
set_option maxRecDepth 100000 in
theorem readN : readL 1 (splitOn 10 (tK ++ tKn)) Dr.new = .inl 5 := by kernel_rfl
theorem layK : layE dK.ms dK.nds = .inr [nKa, nKc] := by kernel_rfl
theorem wt_less (E : Nat → List Nat) (h : ∀ a b, b ∈ E a → b < a) : ∀ k a b, Gr.wt E k a b → b < a
  | 0, a, b, hk => h a b hk
  | k + 1, a, b, ⟨x, hx, hk⟩ => Nat.lt_trans (wt_less E h k x b hk) (h a x hx)
theorem egK : ∀ a b, b ∈ Gr.eg ([nKa, nKc].map no) a → b < a := by
  intro a b hb
  match a, hb with
  | 0, hb => simp [Gr.eg, no, nKa, nKc] at hb
  | 1, hb => simp [Gr.eg, no, nKa, nKc] at hb; omega
  | a + 2, hb => simp [Gr.eg, no, nKa, nKc] at hb
theorem chkK : Gr.chk (ba [112]) 100 ([nKa, nKc].map no) = (0, 0) := by
  have hc : Gr.cyc ([nKa, nKc].map no) = 0 := Gr.cyc_eq (.inl ⟨rfl, fun x ⟨k, hk⟩ => Nat.lt_irrefl _ (wt_less _ egK k x x hk)⟩)
  have h1 : Gr.cW (ba [112]) 100 ([nKa, nKc].map no) = 0 := by kernel_rfl
  have h2 : Gr.cN ([nKa, nKc].map no).length 0 [] ([nKa, nKc].map no) = (0, 0) := by kernel_rfl
  unfold Gr.chk
  rw [if_neg (by rw [h1]; simp), if_neg (by rw [h2]; simp), if_neg (by rw [hc]; simp)]
set_option maxRecDepth 100000 in
theorem parseK : parse tK = .inr ⟨[112], 100, [nKa, nKc]⟩ := by
  unfold parse
  rw [if_neg (by decide), readK]
  simp only [layK]
  rw [if_neg (by decide)]
  unfold judge
  rw [if_pos (by rw [show ba dK.nm = ba [112] from rfl, show dK.dl = 100 from rfl, chkK])]
  rfl
set_option maxRecDepth 100000 in
theorem parseN : parse (tK ++ tKn) = .inl (5, 111) := by
  unfold parse
  rw [if_neg (by decide), readN]
set_option maxRecDepth 100000 in
theorem textK : txt [112] 100 ([nKa, nKc].map no) = tK := by
  unfold txt
  rw [if_pos (by rw [chkK])]
  kernel_rfl
theorem nameAt_er (xs : List Gr.No) (e : Int) : nameAt (xs.map er) e = nameAt xs e := by
  unfold nameAt
  rw [List.getElem?_map]
  cases xs[e.toNat]? <;> rfl
theorem nodeT_er (xs : List Gr.No) (x : Gr.No) : nodeT (xs.map er) (er x) = nodeT xs x := by
  have h : nameAt (xs.map er) = nameAt xs := funext (nameAt_er xs)
  unfold nodeT edgeT edgeW
  rw [h]
  rfl
theorem txt_er (nm : List UInt8) (dl : Int) (xs : List Gr.No) : txt nm dl (xs.map er) = txt nm dl xs := by
  unfold txt textOf
  rw [chk_er, List.map_map]
  have : (nodeT (xs.map er) ∘ er) = nodeT xs := funext fun x => nodeT_er xs x
  rw [this]

/-- Parse of a text that is a plan -/
theorem parse_ok (s : List UInt8) (q : Pl) (h : parse s = .inr q) (hs : s.length ≤ 9223372036854775807) (w : World) (hE : EnvA w) :
    Calls Tryz.prog 5 #[.string (ba s)] w fun e w' => ∃ va vc, e = .returned (.tuple #[.agg #[.string (ba q.nm), .int .i64 q.dl, .slice va q.nds.length vc], .int .i64 0, .int .i64 0]) ∧ Below w.heap.size w w' ∧ NdsAt w.heap.size w' (.slice va q.nds.length vc) q.nds ∧ q.nds.length ≤ 1000000 := by
  have P := parse_any (ba s) w (by rw [ba_size]; omega) hE
  rw [ba_data, h] at P
  refine P.mono ?_
  rintro e w' ⟨hb, ⟨p, c, h1, _⟩ | ⟨q', va, vc, h1, rfl, h2, h3⟩⟩
  · cases h1
  · cases h1
    exact ⟨va, vc, rfl, hb, h2, h3⟩
/-- Parse of a text that is none -/
theorem parse_no (s : List UInt8) (p c : Nat) (h : parse s = .inl (p, c)) (hs : s.length ≤ 9223372036854775807) (w : World) (hE : EnvA w) :
    Calls Tryz.prog 5 #[.string (ba s)] w fun e w' => e = .returned (.tuple #[zPlan, .int .i64 (p : Int), .int .i64 (c : Int)]) ∧ Below w.heap.size w w' := by
  have P := parse_any (ba s) w (by rw [ba_size]; omega) hE
  rw [ba_data, h] at P
  refine P.mono ?_
  rintro e w' ⟨hb, ⟨p', c', h1, rfl⟩ | ⟨q', va, vc, h1, _⟩⟩
  · cases h1
    exact ⟨rfl, hb⟩
  · cases h1
theorem xsK {xs : List Gr.No} (h : xs.map er = [nKa, nKc].map no) : ∃ x0 x1, xs = [x0, x1] ∧ x1.q.ca = 8 ∧ x1.nl = [0] ∧ (∀ x ∈ xs, x.q.nm.size ≤ 40) := by
  have hl := congrArg List.length h
  simp only [List.length_map, List.length_cons, List.length_nil] at hl
  match xs, h, hl with
  | [], _, hl => cases hl
  | [_], _, hl => cases hl
  | _ :: _ :: _ :: _, _, hl => simp at hl
  | [x0, x1], h, _ =>
    simp only [List.map_cons, List.map_nil, List.cons.injEq, and_true] at h
    obtain ⟨h0, h1⟩ := h
    refine ⟨x0, x1, rfl, congrArg (fun x : Gr.No => x.q.ca) h1, congrArg (fun x : Gr.No => x.nl) h1, ?_⟩
    have e0 : x0.q.nm = ba [97] := congrArg (fun x : Gr.No => x.q.nm) h0
    have e1 : x1.q.nm = ba [98] := congrArg (fun x : Gr.No => x.q.nm) h1
    intro x hx
    simp at hx
    rcases hx with rfl | rfl
    · rw [e0]; decide
    · rw [e1]; decide
set_option maxRecDepth 100000 in
set_option maxHeartbeats 4000000 in
theorem known_any (w : World) (hA : EnvA w) (hI : EnvI w) :
    Calls Tryz.prog 4 #[] w fun e w' => e = .returned (.bool true) ∧ Below w.heap.size w w' := by
  have P1 : Hid (∀ w, EnvA w → Calls Tryz.prog 5 #[.string (ba tK)] w fun e w' => ∃ va vc, e = .returned (.tuple #[.agg #[.string (ba [112]), .int .i64 100, .slice va 2 vc], .int .i64 0, .int .i64 0]) ∧ Below w.heap.size w w' ∧ NdsAt w.heap.size w' (.slice va 2 vc) [nKa, nKc]) := fun w hE => (parse_ok tK _ parseK (by decide) w hE).mono fun e w' ⟨va, vc, h1, h2, h3, _⟩ => ⟨va, vc, h1, h2, h3⟩
  have P2 : Hid (∀ w, EnvA w → Calls Tryz.prog 5 #[.string (ba (tK ++ tKn))] w fun e w' => e = .returned (.tuple #[zPlan, .int .i64 5, .int .i64 111]) ∧ Below w.heap.size w w') := parse_no (tK ++ tKn) _ _ parseN (by decide)
  have HA := hide hA
  have HI := hide hI
  clear hA hI
  go_enter Tryz.func4, Tryz.ntmps4
  go_upto_region 2 with fail
  generalize hS : (ByteArray.mk (List.toArray (List.append _ _))) = S at *
  have hS2 : S = ba tK := by rw [← hS]; rfl
  have HS := hide hS2
  have HS3 : Hid (S ++ ⟨#[110, 101, 101, 100, 115, 32, 97]⟩ = ba (tK ++ tKn)) := by
    show _ = _
    rw [hS2]
    apply ByteArray.ext
    rw [ByteArray.data_append]
    simp [ba, tKn]
  have hsS : S.size = 124 := by rw [hS2, ba_size]; rfl
  clear hS
  rw [← hS2] at P1
  rw [← HS3.out] at P2
  clear hS2
  go_wp2_with fail
  go_at_call 5
  refine (P1.out w HA.out).mono ?_
  rintro e w1 ⟨va, vc, rfl, b1, n1⟩
  have HB1 := hide b1
  have HN1 := hide n1
  have hz1 := b1.size
  clear b1 n1
  go_upto_region 3 with fail
  have HBX := hide (heap_alloc_new w1 (.cells #[.string (ba [112]), .int .i64 100, .slice va 2 vc] 25))
  have BL : Hid (Below w1.heap.size w1 (w1.alloc (.cells #[.string (ba [112]), .int .i64 100, .slice va 2 vc] 25))) := (Below.refl _ w1).alloc (Nat.le_refl _) _
  have hz2 : (w1.alloc (.cells #[.string (ba [112]), .int .i64 100, .slice va 2 vc] 25)).heap.size = w1.heap.size + 1 := by simp
  generalize w1.alloc (.cells #[.string (ba [112]), .int .i64 100, .slice va 2 vc] 25) = w2 at *
  have HB2 : Hid (Below w.heap.size w w2) := HB1.out.trans (BL.out.mono hz1)
  obtain ⟨xs, hxs, hrp⟩ := HN1.out.rd (by decide)
  obtain ⟨x0, x1, hxx, hca, hnl, hsm⟩ := xsK hxs
  have hrp2 := rdp_below hrp BL.out (Nat.le_refl _)
  have T := text_any [112] 100 (va, 2, vc) xs w1.heap.size w2 hrp2 (by omega) (HI.out.below HB2.out) ⟨by rw [ba_size]; decide, fun x hx => Nat.le_trans (hsm x hx) (by decide)⟩
  have hck : Gr.chk (ba [112]) 100 xs = (0, 0) := by rw [← chk_er, hxs, chkK]
  have htx : txt [112] 100 xs = tK := by rw [← txt_er, hxs, textK]
  rw [hck, htx, ← HS.out] at T
  have T2 : Hid (Calls Tryz.prog 8 #[.agg #[.string (ba [112]), .int .i64 100, .slice va 2 vc]] w2 fun e w' => e = .returned (.tuple #[.string S, .int .i64 0]) ∧ Below w2.heap.size w2 w') := T
  obtain ⟨g, off, y, hy1, hy2, hy3, hy4, hy5, _⟩ := hrp2.at (i := 1) (by show 1 < 2; decide)
  rw [hxx] at hy3
  simp at hy3
  subst hy3
  simp only at hy1
  subst hy1
  obtain ⟨y, hya⟩ : ∃ z, z = x1.q.ne := ⟨_, rfl⟩
  obtain ⟨ya, yn, yc⟩ := y
  obtain ⟨g3, off3, z0, hw1, hw2, hw3, hw4⟩ := hy5.at (i := 0) (by rw [hy5.1, hnl]; decide)
  rw [hnl] at hw3
  simp at hw3
  subst hw3
  have hnl1 := hy5.1
  rw [← hya, hnl] at hnl1
  rw [← hya] at hw1
  simp at hnl1 hw1
  subst hnl1
  subst hw1
  have ks := hy4.all.2.2.2.2.2.2.1
  have kn := hy4.all.2.2.2.2.2.2.2.2.1
  rw [hca] at ks
  rw [← hya] at kn
  simp only at kn
  have p0 := cell_blk HBX.out 0 (v := .string (ba [112])) rfl
  have p1 := cell_blk HBX.out 1 (v := .int .i64 100) rfl
  have p2 := cell_blk HBX.out 2 (v := .slice (some ⟨g, off, none⟩) 2 vc) rfl
  have CELLS : Hid (∀ W, Below w2.heap.size w2 W → W.cell? ⟨w1.heap.size, 0, none⟩ = some (.string (ba [112])) ∧ W.cell? ⟨w1.heap.size, 2, none⟩ = some (.slice (some ⟨g, off, none⟩) 2 vc) ∧ W.cell? ⟨g, off + 1 * 10 + 6, none⟩ = some (.int .i64 8) ∧ W.cell? ⟨g, off + 1 * 10 + 8, none⟩ = some (.slice (some ⟨g3, off3, none⟩) 1 yc) ∧ W.cell? ⟨g3, off3, none⟩ = some (.int .i64 0)) := fun W hb => by
    have kk : ∀ (p : Addr) v, w2.cell? p = some v → W.cell? p = some v := fun p v h => (hb.cell (p := p) (World.block_lt_of_cell? _ _ h)).trans h
    exact ⟨kk _ _ p0, kk _ _ p2, kk _ _ ks, kk _ _ kn, kk _ _ hw4⟩
  clear T hck htx hrp hrp2 hsm hxs hxx hy4 hy5 hw4 hnl hca hya ks kn HN1 HBX
  go_wp2_with fail
  go_at_call 8
  refine T2.out.mono ?_
  rintro e w3 ⟨rfl, b3⟩
  have HB3 := hide b3
  have HW3 : Hid (Below w.heap.size w w3) := HB2.out.trans (b3.mono HB2.out.size)
  clear b3 p0 p1 p2 T2
  go_wp2_with fail
  go_at_call 5
  refine (P2.out w3 (HA.out.below HW3.out)).mono ?_
  rintro e w4 ⟨rfl, b4⟩
  have HB4 := hide (HB3.out.trans (b4.mono HB3.out.size))
  clear b4 HB3 HW3 P1 P2
  unfold zPlan
  go_upto_region 5 with fail
  have HB5 : Hid (Below w2.heap.size w2 (w4.alloc (.cells #[.string ⟨#[]⟩, .int .i64 0, .slice none 0 0] 25))) := HB4.out.alloc HB4.out.size _
  generalize w4.alloc (.cells #[.string ⟨#[]⟩, .int .i64 0, .slice none 0 0] 25) = w5 at *
  obtain ⟨p0, p2, ks, kn, kz⟩ := CELLS.out _ HB5.out
  simp only [Nat.one_mul] at ks kn
  clear CELLS
  have hb112 : (ba [112]).toList = [112] := by kernel_rfl
  go_wp2_with fail
  go_ret
  exact ⟨rfl, HB2.out.trans (HB5.out.mono HB2.out.size)⟩
end U
end Go.Proofs.YtnhmmplheihojaaGreatDoor
