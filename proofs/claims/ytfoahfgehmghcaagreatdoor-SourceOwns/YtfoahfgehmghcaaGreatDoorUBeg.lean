import Derived.Test.YtfoahfgehmghcaaGreatDoorGBase
import Derived.Test.YtfoahfgehmghcaaGreatDoorUNof
import Derived.Lib.ItoaNum
import Derived.Test.YtfoahfgehmghcaaGreatDoorUBea
/- Package source: lines that are written. -/
namespace Go.Proofs.YtfoahfgehmghcaaGreatDoor
namespace U
open Go.RowKit

/-- the library's table that Itoa reads -/
def EnvI (w : World) : Prop := Lib.TabIs Tryz.prog w "internal/strconv.uint64pow10" .u64 Lib.pow10Tab
theorem globalTab : Tryz.prog.globalNamed "internal/strconv.uint64pow10" = some 1 := by kernel_rfl
theorem EnvI.blk {w w' : World} (h : EnvI w) (k : ∀ i o, w.heap[i]? = some o → i = 1 → w'.heap[i]? = some o) : EnvI w' := by
  unfold EnvI Lib.TabIs World.var? at h ⊢
  rw [globalTab] at h ⊢
  simp only [Option.bind_some] at h ⊢
  cases hg : w.heap[1]? with
  | none => rw [hg] at h; simp at h
  | some o =>
    rw [k _ o hg rfl]
    rw [hg] at h
    exact h
theorem EnvI.below {w w' : World} (h : EnvI w) (k : Below w.heap.size w w') : EnvI w' := h.blk fun i _ hi _ => (k.block i (Array.getElem?_eq_some_iff.1 hi).1).trans hi
theorem itoa_any (n : Int) (h0 : -9223372036854775808 ≤ n) (h1 : n ≤ 9223372036854775807) (w : World) (h : EnvI w) :
    Calls Tryz.prog 31 #[.int .i64 n] w fun e w' => e = .returned (.string (ba (Lib.itoa n))) ∧ Below w.heap.size w w' := by
  refine (Tryz.strconv_Itoa n h0 h1 w h).mono ?_
  rintro e w' ⟨rfl, k, os, rfl⟩
  refine ⟨rfl, ⟨rfl, rfl, rfl, by simp [Sort.grow, World.drewN], fun i hi => ?_⟩⟩
  rw [Sort.heap_grow_old _ _ (by simpa [World.drewN] using hi)]
  rfl
theorem ba_map (ws : List (List UInt8)) : (ws.map ba).map (·.data.toList) = ws := by
  induction ws with
  | nil => rfl
  | cons x r ih => simp only [List.map_cons, ih, ba_data]
/-- a line -/
def lineT (ws : List (List UInt8)) : List UInt8 := Lib.join ws [32] ++ [10]
theorem join_len : ∀ (ws : List (List UInt8)), (Lib.join ws [32]).length ≤ (ws.map (·.length)).sum + ws.length
  | [] => by simp [Lib.join_nil]
  | x :: r => by
    rw [Lib.join_cons]
    have : ∀ r : List (List UInt8), (Lib.joinTail [32] r).length = (r.map (·.length)).sum + r.length := by
      intro r
      induction r with
      | nil => rfl
      | cons y r ih => unfold Lib.joinTail at ih ⊢; simp only [List.map_cons, List.flatten_cons, List.length_append, List.length_cons, List.length_nil, List.sum_cons] at ih ⊢; omega
    simp only [List.length_append, List.map_cons, List.sum_cons, List.length_cons, this]
    omega
set_option maxHeartbeats 1000000 in
theorem writeLine_any (b : Nat) (l : List UInt8) (a : Option Addr) (ws : List (List UInt8)) (c : Nat) (w : World) (hb : Bd w b l) (hr : RdS w a ws) (hne : ws ≠ []) (hc : ws.length ≤ c) (hs : (ws.map (·.length)).sum + ws.length ≤ 1000000000) (hl : l.length ≤ 1000000000) :
    Calls Tryz.prog 30 #[.pointer (some ⟨b, 0, none⟩), .slice a ws.length c] w fun e w' => e = .returned (.tuple #[]) ∧ Bd w' b (l ++ lineT ws) ∧ Below b w w' ∧ Oth b w w' := by
  obtain ⟨g, off, rfl, hg, hcell⟩ := hr.resolve_left hne
  have hj := join_len ws
  have e1 : (ws.map ba).map (·.data.toList) = ws := ba_map ws
  have hgl : g < w.heap.size := by obtain ⟨cs, h⟩ := hg; exact (Array.getElem?_eq_some_iff.1 h).1
  have J := hide (Tryz.strings_Join g off c (ws.map ba) ⟨#[32]⟩ w (fun j x hx => by
    rw [List.getElem?_map] at hx
    obtain ⟨y, hy, rfl⟩ := Option.map_eq_some_iff.1 hx
    exact hcell j y hy) hgl (by simp; omega) (by simpa using hc) (by rw [e1]; exact Nat.le_trans hj (by omega)))
  rw [e1, List.length_map] at J
  have HB := hide hb
  have hbl := hb.lt
  have e3 : l ++ lineT ws = (l ++ Lib.join ws [32]) ++ [10] := by unfold lineT; simp
  rw [e3]
  have e4 : (⟨#[32]⟩ : ByteArray).data.toList = [32] := rfl
  rw [e4] at J
  generalize hjj : Lib.join ws [32] = js at *
  have W1 := hide (fun w h => writeString b l (ba js) w h (by rw [ba_size]; omega))
  have W2 := hide (fun w h => writeByte b (l ++ js) 10 w h (by simp; omega))
  rw [ba_data] at W1
  have J2 : Hid (Calls Tryz.prog 58 #[.slice (some ⟨g, off, none⟩) ws.length c, .string ⟨#[32]⟩] w fun e w' => e = .returned (.string (ba js)) ∧ Below w.heap.size w w') := J.out
  clear hcell hg e1 J hb hr e3 e4 hjj hj
  go_enter Tryz.func30, Tryz.ntmps30
  go_wp2_with fail
  go_at_call 58
  refine J2.out.mono ?_
  rintro e w1 ⟨rfl, b1⟩
  have HB1 := hide (HB.out.keep b1)
  have BL1 := hide (b1.mono (Nat.le_of_lt hbl))
  have OT1 := hide (Oth.below (b := b) b1)
  clear b1 HB J2
  go_wp2_with fail
  go_at_call 57
  refine (W1.out _ HB1.out).mono ?_
  rintro e w2 ⟨rfl, hb2, bl2, ot2⟩
  have HB2 := hide hb2
  have BL2 := hide (BL1.out.trans bl2)
  have OT2 := hide (OT1.out.trans ot2)
  clear hb2 bl2 ot2 HB1 BL1 OT1 W1
  go_wp2_with fail
  go_at_call 59
  refine (W2.out _ HB2.out).mono ?_
  rintro e w3 ⟨rfl, hb3, bl3, ot3⟩
  go_wp2_with fail
  go_end0
  exact ⟨rfl, hb3, BL2.out.trans bl3, OT2.out.trans ot3⟩
end U
end Go.Proofs.YtfoahfgehmghcaaGreatDoor

/- Package source: the plan's line. -/
namespace Go.Proofs.YtfoahfgehmghcaaGreatDoor
namespace U
open Go.RowKit

/-- a block that drafts and lines are made of -/
def Tb (w : World) (k : Nat) : Prop := ∃ cs t, w.heap[k]? = some (.cells cs t (0, 0)) ∧ (t = 87 ∨ t = 128 ∨ t = 32 ∨ t = 3 ∨ t = 131)
/-- all stays but such blocks from B on -/
def Fr (B : Nat) (w w' : World) : Prop := Keep (fun k => B ≤ k ∧ Tb w k) w w'
theorem Fr.refl (B : Nat) (w : World) : Fr B w w := Keep.refl _ w
theorem Fr.trans {B : Nat} {a b c : World} (h : Fr B a b) (k : Fr B b c) : Fr B a c :=
  ⟨k.os.trans h.os, k.tape.trans h.tape, k.output.trans h.output, Nat.le_trans h.size k.size, fun i hi hn => by
    have e1 := h.block i hi hn
    refine (k.block i (Nat.lt_of_lt_of_le hi h.size) fun ht => hn ⟨ht.1, ?_⟩).trans e1
    obtain ⟨cs, t, hc, hs⟩ := ht.2
    exact ⟨cs, t, e1 ▸ hc, hs⟩⟩
theorem Fr.ofBelow {B : Nat} {a b : World} (h : Below a.heap.size a b) : Fr B a b := Keep.ofBelow h (Nat.le_refl _)
theorem Fr.ofKeep {B : Nat} {a b : World} {S : Nat → Prop} (h : Keep S a b) (hS : ∀ k, S k → B ≤ k ∧ Tb a k) : Fr B a b := h.mono hS
theorem Fr.below {B : Nat} {a b : World} (h : Fr B a b) (hB : B ≤ a.heap.size) : Below B a b := Keep.below h hB fun _ h => h.1
theorem LineAt.tb {w : World} {L pl : Nat} {s : Ln} (h : LineAt w L pl s) : Tb w L := by
  obtain ⟨cs, hc⟩ := h.blk
  exact ⟨cs, _, hc, .inr (.inl rfl)⟩
theorem DrAt.tb {B : Nat} {w : World} {D : Nat} {d : Dr} (h : DrAt B w D d) : B ≤ D ∧ Tb w D := by
  obtain ⟨vn, vp, vm, h0, h1, _⟩ := h
  exact ⟨h0, _, _, h1, .inl rfl⟩
theorem Fr.line {B : Nat} {a b : World} {L pl : Nat} {s : Ln} (h : LineAt a L pl s) (hB : B ≤ L) (k : Keep (fun i => i = L) a b) : Fr B a b :=
  Fr.ofKeep k fun i e => by subst e; exact ⟨hB, h.tb⟩
/-- strings and the like stay -/
theorem Fr.strB {B : Nat} {w w' : World} {k : Nat} (h : Fr B w w') {cs : Array Value} (hc : w.heap[k]? = some (.cells cs 9 (0, 0))) : w'.heap[k]? = some (.cells cs 9 (0, 0)) := by
  refine Keep.blk h hc ?_
  rintro ⟨_, cs', t, h', ht⟩
  rw [hc] at h'
  injection h' with h'
  injection h' with _ h'
  subst h'
  revert ht
  decide
theorem LineAt.place {w : World} {L pl : Nat} {s : Ln} (h : LineAt w L pl s) : w.cell? ⟨L, 0, none⟩ = some (.int .i64 (pl : Int)) := by
  obtain ⟨a, c, hb, _⟩ := h
  exact cell_blk hb 0 rfl
/-- a store into a draft's own block -/
theorem DrAt.put {B : Nat} {w : World} {D : Nat} {d d' : Dr} {vn vp vm : Value} {cs : Array Value} (hB : B ≤ D) (h1 : w.heap[D]? = some (.cells cs 87 (0, 0))) (h2 : w.ownsRow B 32 10 vn d.nds.length (flat (d.nds.map fun x => (no x).q))) (h3 : w.ownsRow B 3 1 vp d.places.length (ivs d.places)) (h4 : MsAt B w vm d.ms) {w' : World} (k : Keep (fun i => i = D) w w') (hn : d'.nds = d.nds) (hp : d'.places = d.places) (hm : d'.ms = d.ms) (hb : w'.heap[D]? = some (.cells (drow d' vn vp vm).toArray 87 (0, 0))) : DrAt B w' D d' := by
  refine ⟨vn, vp, vm, hB, hb, ?_, ?_, ?_⟩
  · rw [hn]; exact own_keep h2 k fun g hg e => by subst e; exact own_far h2 h1 (by decide) hg
  · rw [hp]; exact own_keep h3 k fun g hg e => by subst e; exact own_far h3 h1 (by decide) hg
  · rw [hm]
    refine h4.keep k (fun g hg e => ?_) (fun g e => ?_)
    · subst e
      obtain ⟨l, _, ho, _⟩ := h4
      exact own_far ho h1 (by decide) hg
    · subst e; exact not_strB h1 (by decide)

/-- what a line's function leaves -/
def DoEnd (B D L pl : Nat) (r : Option Dr) (w : World) (e : Ending) (w' : World) : Prop := e = .returned (.bool r.isSome) ∧ (∀ d', r = some d' → DrAt B w' D d') ∧ Fr B w w' ∧ (r = none → w'.cell? ⟨L, 0, none⟩ = some (.int .i64 (pl : Int)))

set_option maxHeartbeats 1000000 in
theorem begin_any (B D L pl : Nat) (d : Dr) (ws : List (List UInt8)) (w : World) (hD : DrAt B w D d) (hL : LineAt w L pl (ws, false)) (hz : ∀ x ∈ ws, x.length ≤ 65536) (hBL : B ≤ L) :
    Calls Tryz.prog 83 #[.pointer (some ⟨D, 0, none⟩), .pointer (some ⟨L, 0, none⟩)] w (DoEnd B D L pl (begin_ d pl ws) w) := by
  have HR : Hid (begin_ d pl ws = if fits (tkNum kwDead (tkName (ws, false)).2).2 = true ∧ d.place = 0 then some { d with nm := (tkName (ws, false)).1, dl := (tkNum kwDead (tkName (ws, false)).2).1, place := pl } else none) := rfl
  have N1 := hide (name_any L pl (ws, false) w hL hz)
  have N2 := hide (fun w h => number_any L pl kwDead (tkName (ws, false)).2 w h)
  have N3 := hide (fun w h => fits_any L pl (tkNum kwDead (tkName (ws, false)).2).2 w h)
  generalize begin_ d pl ws = R at *
  generalize (tkName (ws, false)).1 = nm at *
  generalize (tkNum kwDead (tkName (ws, false)).2).1 = dl at *
  generalize fits (tkNum kwDead (tkName (ws, false)).2).2 = ft at *
  generalize (tkNum kwDead (tkName (ws, false)).2).2 = s2 at *
  generalize (tkName (ws, false)).2 = s1 at *
  have HD := hide hD
  have HL := hide hL
  clear hD hL hz
  go_enter Tryz.func83, Tryz.ntmps83
  go_wp2_with fail
  go_at_call 102
  refine N1.out.mono ?_
  rintro e w1 ⟨rfl, l1, k1⟩
  have F1 := hide (Fr.line HL.out hBL k1)
  have D1 := hide (HD.out.lineAt HL.out k1)
  have L1 := hide l1
  clear l1 k1 HD HL N1
  go_wp2_with fail
  go_at_call 103
  refine (N2.out _ L1.out).mono ?_
  rintro e w2 ⟨rfl, l2, k2⟩
  have F2 := hide (F1.out.trans (Fr.line L1.out hBL k2))
  have D2 := hide (D1.out.lineAt L1.out k2)
  have L2 := hide l2
  clear l2 k2 L1 D1 F1 N2
  have hpl := L2.out.place
  obtain ⟨vn, vp, vm, hBD, hb, o1, o2, o3⟩ := D2.out
  have HB := hide hb
  have O1 := hide o1
  have O2 := hide o2
  have O3 := hide o3
  have HDt := hide D2.out.tb
  unfold drow at hb
  have c0 := cell_blk hb 0 (v := .string (ba d.nm)) rfl
  have c1 := cell_blk hb 1 (v := .int .i64 d.dl) rfl
  have c3 := cell_blk hb 3 (v := .int .i64 (d.place : Int)) rfl
  have f0 := frozen_blk hb 0
  have f1 := frozen_blk hb 1
  have f3 := frozen_blk hb 3
  have hne : L ≠ D := fun e => by
    obtain ⟨cs, hc⟩ := L2.out.blk
    rw [e, HB.out] at hc
    injection hc with hc
    injection hc with _ hc
    exact absurd hc (by decide)
  clear hb o1 o2 o3 D2
  cases ft with
  | false =>
    obtain rfl : R = none := by rw [HR.out, if_neg (by simp)]
    go_wp2_with (go_at_call 104; refine (N3.out _ L2.out).mono ?_; rintro e w3 ⟨rfl, rfl⟩)
    go_ret
    exact ⟨rfl, (fun d' h => by cases h), F2.out, fun _ => hpl⟩
  | true =>
    by_cases hp : d.place = 0
    · have hr := HR.out
      rw [if_pos ⟨rfl, hp⟩] at hr
      subst hr
      rw [hp] at c3
      go_wp2_with (go_at_call 104; refine (N3.out _ L2.out).mono ?_; rintro e w3 ⟨rfl, rfl⟩)
      go_ret
      have kk := ((keep_cell w3 D 0 (.string (ba nm))).more (keep_cell _ D 1 (.int .i64 dl))).more (keep_cell _ D 3 (.int .i64 (pl : Int)))
      refine ⟨rfl, fun d' h => ?_, F2.out.trans (Fr.ofKeep kk fun i e => by subst e; exact HDt.out), fun h => by cases h⟩
      injection h with h
      subst h
      exact DrAt.put (d := d) hBD HB.out O1.out O2.out O3.out kk rfl rfl rfl ((set_blk (set_blk (set_blk HB.out 0 _) 1 _) 3 _).trans rfl)
    · obtain rfl : R = none := by rw [HR.out, if_neg (fun h => hp h.2)]
      have hp' : ((d.place : Int) != 0) = true := by simp; omega
      go_wp2_with (go_at_call 104; refine (N3.out _ L2.out).mono ?_; rintro e w3 ⟨rfl, rfl⟩)
      go_ret
      exact ⟨rfl, (fun d' h => by cases h), F2.out, fun _ => hpl⟩
end U
end Go.Proofs.YtfoahfgehmghcaaGreatDoor
