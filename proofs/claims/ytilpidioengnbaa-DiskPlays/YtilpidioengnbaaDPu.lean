import Derived.Test.YtilpidioengnbaaDPq
/- DiskPlays: the document's disk in memory; counted, Arm, Down, New. -/
namespace Go.Proofs.Ytilpidioengnbaa
namespace DP
open Go.RowKit

def Bl (v : Value) (L : List Sv) (g : Nat) : Prop := v.ownBlock = some g ∨ ∃ e ∈ L, e.v.ownBlock = some g
def lefI : Option Nat → Int | none => -1 | some n => n
def cellsR (cap : Nat) (vt vs : Value) (left : Option Nat) (off : Bool) : Array Value := #[.int .i64 (cap : Nat), vt, vs, .int .i64 (lefI left), .bool off]
/-- the document's disk in memory -/
structure RAt (S : Nat → Prop) (w : World) (P cap : Nat) (vt : Value) (lt : List Sv) (vs : Value) (ls : List Sv) (left : Option Nat) (off : Bool) : Prop where
  blk : w.heap[P]? = some (.cells (cellsR cap vt vs left off) 64 (0, 0))
  sp : S P
  t : LsIn S w vt lt
  s : LsIn S w vs ls
  ap : ∀ g, Bl vt lt g → ¬ Bl vs ls g
def RIn (S : Nat → Prop) (w : World) (P : Nat) (r : Rf) : Prop := ∃ vt lt vs ls, RAt S w P r.cap vt lt vs ls r.left r.off ∧ r.th = lt.map Sv.sg ∧ r.sf = ls.map Sv.sg
/-- what a call of the document's leaves -/
def DidR (S : Nat → Prop) (w : World) (P : Nat) (x : Int × Rf) (e : Ending) (w' : World) : Prop := e = .returned (.int .i64 x.1) ∧ RIn S w' P x.2 ∧ Keep S w w'

theorem LsIn.neP {S : Nat → Prop} {w : World} {v : Value} {L : List Sv} (h : LsIn S w v L) {P : Nat} {cs : Array Value} (hP : w.heap[P]? = some (.cells cs 64 (0, 0))) : ¬ Bl v L P := by
  rintro (e | ⟨x, hx, e⟩)
  · rcases h.row.2 with ⟨rfl, _⟩ | ⟨g, cap, cur, rfl, _, hg, _⟩
    · cases e
    · have e : some g = some P := e
      injection e with e
      subst e
      rw [hP] at hg
      injection hg with hg
      injection hg with _ hg
      exact absurd hg (by decide)
  · obtain ⟨cs', hc⟩ := row_blk (h.by8 x hx) e
    rw [hP] at hc
    injection hc with hc
    injection hc with _ hc
    exact absurd hc (by decide)
theorem LsIn.stayP {S : Nat → Prop} {w : World} {v : Value} {L : List Sv} (h : LsIn S w v L) {P : Nat} {cs : Array Value} (hP : w.heap[P]? = some (.cells cs 64 (0, 0))) (j : Nat) (u : Value) : LsIn S (w.setCell ⟨P, j, none⟩ u) v L :=
  have k := keep_cell w P j u
  ⟨ownsRow_keep h.row k fun g e (e2 : g = P) => h.neP hP (.inl (e2 ▸ e)), fun e he => (h.by8 e he).keep k fun g e2 (e3 : g = P) => h.neP hP (.inr ⟨e, he, e3 ▸ e2⟩), h.sep, h.sv, h.sb⟩
theorem RAt.stay {S : Nat → Prop} {w w' : World} {P cap : Nat} {vt vs : Value} {lt ls : List Sv} {left : Option Nat} {off : Bool} (h : RAt S w P cap vt lt vs ls left off) {T : Nat → Prop} (hk : Keep T w w') (hT : ∀ g, g < w.heap.size → S g → ¬ T g) : RAt S w' P cap vt lt vs ls left off :=
  ⟨(hk.block P (Array.getElem?_eq_some_iff.1 h.blk).1 (hT P (Array.getElem?_eq_some_iff.1 h.blk).1 h.sp)).trans h.blk, h.sp, h.t.stay hk hT, h.s.stay hk hT, h.ap⟩
theorem RIn.stay {S : Nat → Prop} {w w' : World} {P : Nat} {r : Rf} (h : RIn S w P r) {T : Nat → Prop} (hk : Keep T w w') (hT : ∀ g, g < w.heap.size → S g → ¬ T g) : RIn S w' P r := by
  obtain ⟨vt, lt, vs, ls, h, h1, h2⟩ := h
  exact ⟨vt, lt, vs, ls, h.stay hk hT, h1, h2⟩
theorem RIn.mono {S T : Nat → Prop} {w : World} {P : Nat} {r : Rf} (h : RIn S w P r) (hT : ∀ g, S g → T g) : RIn T w P r := by
  obtain ⟨vt, lt, vs, ls, h, h1, h2⟩ := h
  exact ⟨vt, lt, vs, ls, ⟨h.blk, hT _ h.sp, h.t.mono hT, h.s.mono hT, h.ap⟩, h1, h2⟩
/-- a number or a switch of the disk's is written -/
theorem RAt.set {S : Nat → Prop} {w : World} {P cap : Nat} {vt vs : Value} {lt ls : List Sv} {left left' : Option Nat} {off off' : Bool} (h : RAt S w P cap vt lt vs ls left off) (j : Nat) (u : Value) (hu : (cellsR cap vt vs left off).setIfInBounds j u = cellsR cap vt vs left' off') :
    RAt S (w.setCell ⟨P, j, none⟩ u) P cap vt lt vs ls left' off' ∧ Keep S w (w.setCell ⟨P, j, none⟩ u) :=
  ⟨⟨(set_blk h.blk j u).trans (by rw [hu]), h.sp, h.t.stayP h.blk j u, h.s.stayP h.blk j u, h.ap⟩, Keep.setCell _ (show S P from h.sp) _⟩

set_option maxRecDepth 100000 in
set_option maxHeartbeats 1000000 in
theorem counted_any (S : Nat → Prop) (w : World) (P : Nat) (r : Rf) (h : RIn S w P r) (hl : ∀ n, r.left = some n → n ≤ 9223372036854775807) :
    Calls Try.prog 57 #[.pointer (some ⟨P, 0, none⟩)] w (DidR S w P r.spend) := by
  obtain ⟨vt, lt, vs, ls, h, ht, hs⟩ := h
  obtain ⟨rc, rth, rsf, rl, ro⟩ := r
  dsimp only at h ht hs hl
  have c3 := cell_blk h.blk 3 (v := .int .i64 (lefI rl)) rfl
  have c4 := cell_blk h.blk 4 (v := .bool ro) rfl
  have f3 := frozen_blk h.blk 3
  have f4 := frozen_blk h.blk 4
  unfold DidR Rf.spend
  dsimp only
  match rl, hl with
  | none, _ =>
    have HX := hide h
    have HT := hide ht
    have HS := hide hs
    clear h ht hs
    unfold lefI at c3
    go_enter Try.func57, Try.ntmps57
    go_wp2
    go_ret
    exact ⟨rfl, ⟨vt, lt, vs, ls, HX.out, HT.out, HS.out⟩, Keep.refl _ _⟩
  | some 0, _ =>
    have HX := hide (h.set (left' := some 0) (off' := true) 4 (.bool true) rfl)
    have HT := hide ht
    have HS := hide hs
    clear h ht hs
    replace c3 : w.cell? ⟨P, 3, none⟩ = some (.int .i64 0) := c3
    go_enter Try.func57, Try.ntmps57
    go_wp2
    go_ret
    exact ⟨rfl, ⟨vt, lt, vs, ls, HX.out.1, HT.out, HS.out⟩, HX.out.2⟩
  | some (n + 1), hl =>
    have hn := hl _ rfl
    have HX := hide (h.set (left' := some n) (off' := ro) 3 (.int .i64 (n : Int)) rfl)
    have HT := hide ht
    have HS := hide hs
    have h1 : ¬ ((n + 1 : Nat) : Int) < 0 := by omega
    have h2 : ((n + 1 : Nat) : Int) > 0 := by omega
    have h3 : IntKind.i64.wrap (((n + 1 : Nat) : Int) - 1) = (n : Int) := by rw [Go.Proofs.Ytilpidioengnbaa.wr (by omega) (by omega)]; omega
    clear h ht hs hl
    unfold lefI at c3
    dsimp only at c3
    generalize ((n + 1 : Nat) : Int) = N at *
    go_enter Try.func57, Try.ntmps57
    go_wp2
    go_ret
    exact ⟨rfl, ⟨vt, lt, vs, ls, HX.out.1, HT.out, HS.out⟩, HX.out.2⟩
set_option maxRecDepth 100000 in
set_option maxHeartbeats 1000000 in
theorem refArm_any (S : Nat → Prop) (w : World) (P : Nat) (r : Rf) (n : Int) (h : RIn S w P r) (_h1 : -9223372036854775808 ≤ n) (_h2 : n ≤ 9223372036854775807) :
    Calls Try.prog 40 #[.pointer (some ⟨P, 0, none⟩), .int .i64 n] w (DidR S w P (r.arm n)) := by
  obtain ⟨vt, lt, vs, ls, h, ht, hs⟩ := h
  obtain ⟨rc, rth, rsf, rl, ro⟩ := r
  dsimp only at h ht hs
  have c4 := cell_blk h.blk 4 (v := .bool ro) rfl
  have c3 := cell_blk h.blk 3 (v := .int .i64 (lefI rl)) rfl
  have f3 := frozen_blk h.blk 3
  have HY := hide h
  have HT := hide ht
  have HS := hide hs
  unfold DidR Rf.arm
  dsimp only
  cases ro with
  | true =>
    clear h ht hs
    go_enter Try.func40, Try.ntmps40
    go_wp2
    go_ret
    exact ⟨rfl, ⟨vt, lt, vs, ls, HY.out, HT.out, HS.out⟩, Keep.refl _ _⟩
  | false =>
    by_cases h0 : n < 0
    · rw [if_neg (by decide), if_pos h0]
      clear h ht hs
      go_enter Try.func40, Try.ntmps40
      go_wp2
      go_ret
      exact ⟨rfl, ⟨vt, lt, vs, ls, HY.out, HT.out, HS.out⟩, Keep.refl _ _⟩
    · rw [if_neg (by decide), if_neg h0]
      have e : lefI (some n.toNat) = n := by unfold lefI; dsimp only; omega
      have HX := hide (h.set (left' := some n.toNat) (off' := false) 3 (.int .i64 n) (by unfold cellsR; rw [e]; rfl))
      clear h ht hs e
      go_enter Try.func40, Try.ntmps40
      go_wp2
      go_ret
      exact ⟨rfl, ⟨vt, lt, vs, ls, HX.out.1, HT.out, HS.out⟩, HX.out.2⟩
set_option maxRecDepth 100000 in
theorem refDown_any (S : Nat → Prop) (w : World) (P : Nat) (r : Rf) (h : RIn S w P r) :
    Calls Try.prog 16 #[.pointer (some ⟨P, 0, none⟩)] w fun e w' => e = .returned (.bool r.off) ∧ w' = w := by
  obtain ⟨vt, lt, vs, ls, h, _, _⟩ := h
  have c4 := cell_blk h.blk 4 (v := .bool r.off) rfl
  clear h
  go_enter Try.func16, Try.ntmps16
  go_wp2
  go_ret
  exact ⟨rfl, rfl⟩
/-- what New answers -/
def NewR (w : World) (n : Int) (e : Ending) (w' : World) : Prop :=
  if n < 0 ∨ 67108864 < n then e = .returned (.tuple #[.pointer none, .int .i64 50]) ∧ w' = w
  else e = .returned (.tuple #[.pointer (some ⟨w.heap.size, 0, none⟩), .int .i64 0]) ∧ RIn (fun g => w.heap.size ≤ g) w' w.heap.size ⟨n.toNat, [], [], none, false⟩ ∧ Keep (fun _ => False) w w'
set_option maxRecDepth 100000 in
set_option maxHeartbeats 1000000 in
theorem refNew_any (w : World) (n : Int) (_h1 : -9223372036854775808 ≤ n) (_h2 : n ≤ 9223372036854775807) :
    Calls Try.prog 6 #[.int .i64 n] w (NewR w n) := by
  unfold NewR
  by_cases ha : n < 0
  · simp only [if_pos (show n < 0 ∨ 67108864 < n from .inl ha)]
    go_enter Try.func6, Try.ntmps6
    go_wp2
    go_ret2
    exact ⟨rfl, rfl⟩
  · by_cases hb : 67108864 < n
    · simp only [if_pos (show n < 0 ∨ 67108864 < n from .inr hb)]
      have hb' : n > 67108864 := hb
      go_enter Try.func6, Try.ntmps6
      go_wp2
      go_ret2
      exact ⟨rfl, rfl⟩
    · simp only [if_neg (show ¬ (n < 0 ∨ 67108864 < n) by omega)]
      have hb' : ¬ n > 67108864 := hb
      have e : ((n.toNat : Nat) : Int) = n := by omega
      have HX : Hid (RIn (fun g => w.heap.size ≤ g) (w.alloc (.cells #[.int .i64 n, .slice none 0 0, .slice none 0 0, .int .i64 (-1), .bool false] 64)) w.heap.size ⟨n.toNat, [], [], none, false⟩) := by
        refine ⟨.slice none 0 0, [], .slice none 0 0, [], ⟨?_, Nat.le_refl _, LsIn.nil _ _, LsIn.nil _ _, fun g h => ?_⟩, rfl, rfl⟩
        · unfold cellsR lefI
          dsimp only
          rw [e]
          exact heap_alloc_new w _
        · rcases h with h | ⟨e, he, _⟩
          · cases h
          · cases he
      clear e
      go_enter Try.func6, Try.ntmps6
      go_wp2
      go_ret2
      exact ⟨rfl, HX.out, Keep.alloc _ _ _⟩
end DP
end Go.Proofs.Ytilpidioengnbaa

/- DiskPlays: the document's room, Room, Remove. -/
namespace Go.Proofs.Ytilpidioengnbaa
namespace DP
open Go.RowKit

theorem sumS_take {L : List Sv} {i : Nat} {e : Sv} (h : L[i]? = some e) : sumS ((L.take (i + 1)).map Sv.sg) = sumS ((L.take i).map Sv.sg) + (64 + e.b.length) := by
  rw [take_at h, List.map_append]
  unfold sumS
  simp [Sv.sg]
theorem sumS_app (A B : List Sg) : sumS (A ++ B) = sumS A + sumS B := by unfold sumS; rw [List.map_append, List.sum_append]
theorem sumS_le (L : List Sv) (i : Nat) : sumS ((L.take i).map Sv.sg) ≤ sumS (L.map Sv.sg) := by
  have h : L.map Sv.sg = (L.take i).map Sv.sg ++ (L.drop i).map Sv.sg := by rw [← List.map_append, List.take_append_drop]
  have h2 := sumS_app ((L.take i).map Sv.sg) ((L.drop i).map Sv.sg)
  rw [← h] at h2
  omega
theorem sumS_len (L : List Sg) : L.length * 64 ≤ sumS L := by
  induction L with
  | nil => simp
  | cons e r ih => simp [sumS] at ih ⊢; omega
set_option maxRecDepth 100000 in
set_option maxHeartbeats 4000000 in
theorem room_any (S : Nat → Prop) (w : World) (P : Nat) (r : Rf) (h : RIn S w P r) (hc : r.cap ≤ 67108864) (hs : sumS r.th ≤ 1152921504606846976) :
    Calls Try.prog 55 #[.pointer (some ⟨P, 0, none⟩)] w fun e w' => e = .returned (.int .i64 (r.room : Int)) ∧ w' = w := by
  obtain ⟨vt, L, vs, ls, h, ht, _⟩ := h
  obtain ⟨a, c, rfl, _⟩ := ownsRow_sh h.t.row
  unfold Rf.room
  rw [ht] at hs ⊢
  have c0 := cell_blk h.blk 0 (v := .int .i64 (r.cap : Int)) rfl
  have c1 := cell_blk h.blk 1 (v := .slice a L.length c) rfl
  have HR := hide h.t
  have hll := sumS_len (L.map Sv.sg)
  rw [List.length_map] at hll
  generalize r.cap = C at *
  clear h ht
  go_enter Try.func55, Try.ntmps55
  go_wp2_with fail
  go_loopw [3, 4] (fun v iv wr => ∃ i : Nat, iv = .int .i64 (i : Nat) ∧ v = .int .i64 ((C : Int) - (sumS ((L.take i).map Sv.sg) : Int)) ∧ i ≤ L.length ∧ Hid (wr = w)) (fun _ iv _ => L.length - (intOf iv).toNat)
  case atStart => exact ⟨0, rfl, by simp [sumS], Nat.zero_le _, rfl⟩
  case round =>
    obtain ⟨i, rfl, rfl, hi, HW⟩ := hrel
    obtain rfl := HW.out
    have hle := sumS_le L i
    by_cases hlt : i < L.length
    · have hlt' : (i : Int) < (L.length : Int) := by omega
      obtain ⟨e, he⟩ : ∃ e, L[i]? = some e := ⟨_, List.getElem?_eq_getElem hlt⟩
      obtain ⟨g, cap, hv, _, z1⟩ := row_at HR.out.row he
      injection hv with hv1 _ hv2
      subst hv1
      have hrb := HR.out.by8 e (List.mem_of_getElem? he)
      obtain ⟨ba, bc, hev, _⟩ := ownsRow_sh hrb.1
      rw [hev] at z1
      have hst := sumS_take he
      have hle2 := sumS_le L (i + 1)
      have hw1 : IntKind.i64.wrap (((C : Int) - (sumS ((L.take i).map Sv.sg) : Int)) - (e.b.length : Int)) = ((C : Int) - (sumS ((L.take i).map Sv.sg) : Int)) - (e.b.length : Int) := by rw [Go.Proofs.Ytilpidioengnbaa.wr (by omega) (by omega)]
      have hw2 : IntKind.i64.wrap (((C : Int) - (sumS ((L.take i).map Sv.sg) : Int)) - (e.b.length : Int) - 64) = ((C : Int) - (sumS ((L.take (i + 1)).map Sv.sg) : Int)) := by rw [Go.Proofs.Ytilpidioengnbaa.wr (by omega) (by omega)]; omega
      have hw : wrap64 ((i : Int) + 1) = ((i + 1 : Nat) : Int) := wr' (by omega) (by omega) (by omega)
      obtain ⟨s1, hs1⟩ : ∃ s1, s1 = sumS ((L.take (i + 1)).map Sv.sg) := ⟨_, rfl⟩
      rw [← hs1] at hw2
      have HS1 := hide hs1
      clear hs1 hle2 hst hv2 he hrb hev
      generalize sumS ((L.take i).map Sv.sg) = s0 at *
      go_wp2
      go_roundw
      case rel => exact ⟨i + 1, by go_num, by rw [← HS1.out], by omega, trivial⟩
      case measure => simp [intOf]; omega
    · have hlt' : ¬ (i : Int) < (L.length : Int) := by omega
      obtain rfl : i = L.length := by omega
      rw [List.take_length]
      by_cases hn : (C : Int) - (sumS (L.map Sv.sg) : Int) < 0
      · have HN := hide (show C - sumS (L.map Sv.sg) = 0 by omega)
        generalize sumS (L.map Sv.sg) = s0 at hn ⊢
        clear hs hle hll
        go_wp2
        go_ret
        rw [HN.out]
        exact ⟨rfl, rfl⟩
      · have HN := hide (show ((C - sumS (L.map Sv.sg) : Nat) : Int) = (C : Int) - (sumS (L.map Sv.sg) : Int) by omega)
        generalize hq : sumS (L.map Sv.sg) = s0 at hn ⊢
        have HQ := hide hq
        clear hs hle hll hq
        go_wp2
        go_ret
        rw [HN.out, HQ.out]
        exact ⟨rfl, rfl⟩
end DP
end Go.Proofs.Ytilpidioengnbaa

/- DiskPlays: the document's Remove, Room. -/
namespace Go.Proofs.Ytilpidioengnbaa
namespace DP
open Go.RowKit

theorem LsIn.lt {S : Nat → Prop} {w : World} {v : Value} {L : List Sv} (h : LsIn S w v L) {g : Nat} (hg : Bl v L g) : g < w.heap.size := by
  rcases hg with e | ⟨x, hx, e⟩
  · exact (h.row.lt g e).2
  · exact ((h.by8 x hx).1.lt g e).2
theorem row_one {w : World} {v : Value} {b : List Nat} (h : Row w v b) : v.oneCell' = true := by
  obtain ⟨a, c, rfl, _⟩ := ownsRow_sh h.1
  rfl
theorem LsIn.sub {S : Nat → Prop} {w w' : World} {v v' : Value} {L L' : List Sv} (h : LsIn S w v L) (hk : Keep (fun _ => False) w w') (hrow : w'.ownsRow w.heap.size 77 2 v' L'.length (rowS L')) (hsub : L'.Sublist L) (hS : ∀ i, w.heap.size ≤ i → S i) : LsIn S w' v' L' :=
  ⟨hrow.mono (Nat.zero_le _), fun e he => (h.by8 e (hsub.subset he)).keep hk fun _ _ f => f, h.sep.sublist hsub, fun g e => hS g (hrow.lt g e).1, fun e he g e2 => h.sb e (hsub.subset he) g e2⟩
/-- another list of what is there -/
theorem RAt.putT {S : Nat → Prop} {w w1 : World} {P cap : Nat} {vt vs v' : Value} {lt ls L' : List Sv} {left : Option Nat} {off : Bool} (h : RAt S w P cap vt lt vs ls left off) (k1 : Keep (fun _ => False) w w1) (hL : LsIn S w1 v' L') (hap : ∀ g, Bl v' L' g → ¬ Bl vs ls g) :
    RAt S (w1.setCell ⟨P, 1, none⟩ v') P cap v' L' vs ls left off ∧ Keep S w (w1.setCell ⟨P, 1, none⟩ v') := by
  have b1 : w1.heap[P]? = some (.cells (cellsR cap vt vs left off) 64 (0, 0)) := (k1.block P (Array.getElem?_eq_some_iff.1 h.blk).1 fun f => f).trans h.blk
  exact ⟨⟨(set_blk b1 1 v').trans rfl, h.sp, hL.stayP b1 1 v', (h.s.stay k1 fun _ _ _ f => f).stayP b1 1 v', hap⟩, (k1.mono fun _ f => f.elim).more (Keep.setCell _ (show S P from h.sp) _)⟩
theorem atK_neg {L : List Sv} {k : Int} : atK L k < 0 ↔ lookS (L.map Sv.sg) k = none := by
  rw [← (idxK_look (L := L) (k := k)).1]
  unfold atK
  cases idxK L k with
  | none => simp
  | some i => simp
theorem wo_sg (L : List Sv) (k : Int) : (wo L k).map Sv.sg = remS (L.map Sv.sg) k := by
  unfold wo remS
  rw [List.filter_map]
  rfl
theorem atK_in {L : List Sv} {k : Int} (hl : L.length ≤ 4398046511104) : -1 ≤ atK L k ∧ atK L k ≤ 4398046511104 := by
  unfold atK
  cases h : idxK L k with
  | none => simp
  | some i =>
    obtain ⟨e, he, _⟩ := (idxK_look (L := L) (k := k)).2 i h
    have := (List.getElem?_eq_some_iff.1 he).1
    simp
    omega
set_option maxRecDepth 100000 in
set_option maxHeartbeats 4000000 in
theorem refRemove_any (S : Nat → Prop) (w : World) (P : Nat) (r : Rf) (k : Int) (h : RIn S w P r) (_h1 : -9223372036854775808 ≤ k) (_h2 : k ≤ 9223372036854775807) (hS : ∀ i, w.heap.size ≤ i → S i) (hlen : r.th.length ≤ 1099511627776) (hl : ∀ n, r.left = some n → n ≤ 9223372036854775807) :
    Calls Try.prog 36 #[.pointer (some ⟨P, 0, none⟩), .int .i64 k] w (DidR S w P (r.remove k)) := by
  obtain ⟨vt, lt, vs, ls, h, ht, hs⟩ := h
  obtain ⟨rc, rth, rsf, rl, ro⟩ := r
  dsimp only at h ht hs hlen hl
  have hll : lt.length ≤ 1099511627776 := by rw [ht, List.length_map] at hlen; exact hlen
  have HPl := hide (place_any vt lt k w h.t.row (by omega))
  have HWo := hide (without_any vt lt k w h.t.row (fun e he => row_one (h.t.by8 e he)) hll)
  have hat := atK_in (L := lt) (k := k) (by omega)
  have hnn := atK_neg (L := lt) (k := k)
  rw [← ht] at hnn
  have c4 := cell_blk h.blk 4 (v := .bool ro) rfl
  have c1 := cell_blk h.blk 1 (v := vt) rfl
  have HY := hide h
  have HT := hide ht
  have HS := hide hs
  have HSf := hide hS
  have HLf := hide hl
  unfold Rf.remove
  dsimp only
  cases ro with
  | true =>
    rw [if_pos rfl]
    unfold DidR
    clear h ht hs hl hS
    go_enter Try.func36, Try.ntmps36
    go_wp2
    go_ret
    exact ⟨rfl, ⟨vt, lt, vs, ls, HY.out, HT.out, HS.out⟩, Keep.refl _ _⟩
  | false =>
    rw [if_neg (by decide)]
    generalize hA : atK lt k = A at *
    by_cases hn : A < 0
    · rw [if_pos (hnn.1 hn)]
      unfold DidR
      clear h ht hs hl hS hnn hA
      go_enter Try.func36, Try.ntmps36
      go_wp2_with (go_at_call 54; refine HPl.out.mono ?_; rintro e w1 ⟨rfl, hw⟩; have hw := hw.symm; subst hw)
      go_ret
      exact ⟨rfl, ⟨vt, lt, vs, ls, HY.out, HT.out, HS.out⟩, Keep.refl _ _⟩
    · rw [if_neg fun e => hn (hnn.2 e)]
      have f1 := frozen_blk h.blk 1
      clear h ht hs hl hS hnn hA
      go_enter Try.func36, Try.ntmps36
      go_wp2_with (first
        | (go_at_call 54; refine HPl.out.mono ?_; rintro e w1 ⟨rfl, hw⟩; have hw := hw.symm; subst hw)
        | (go_at_call 58
           refine HWo.out.mono ?_
           rintro e w1 ⟨v', rfl, hrow, hk1⟩
           obtain ⟨a', c', rfl, _⟩ := ownsRow_sh hrow
           have hb1 := (hk1.block P (Array.getElem?_eq_some_iff.1 HY.out.blk).1 fun f => f).trans HY.out.blk
           have d1 := cell_blk hb1 1 (v := vt) rfl
           have g1 := frozen_blk hb1 1
           have hLs := HY.out.t.sub hk1 hrow List.filter_sublist HSf.out
           have hX := HY.out.putT hk1 hLs (fun g hg hg2 => by
             rcases hg with e | ⟨x, hx, e⟩
             · have h1 := (hrow.lt g e).1
               have h2 := HY.out.s.lt hg2
               omega
             · exact HY.out.ap g (.inr ⟨x, (List.mem_filter.1 hx).1, e⟩) hg2)
           have HK2 := hide hX.2
           have HC := hide (counted_any S _ P ⟨rc, remS rth k, rsf, rl, false⟩ ⟨_, wo lt k, vs, ls, hX.1, by rw [wo_sg, HT.out], HS.out⟩ HLf.out)
           clear hb1 hLs hX hrow hk1)
        | (go_at_call 57
           refine HC.out.mono ?_
           rintro e w3 ⟨rfl, hr3, hk3⟩))
      go_ret
      exact ⟨rfl, hr3, HK2.out.more hk3⟩
set_option maxRecDepth 100000 in
set_option maxHeartbeats 1000000 in
theorem refRoom_any (S : Nat → Prop) (w : World) (P : Nat) (r : Rf) (h : RIn S w P r) (hc : r.cap ≤ 67108864) (hs : sumS r.th ≤ 1152921504606846976) :
    Calls Try.prog 39 #[.pointer (some ⟨P, 0, none⟩)] w fun e w' => e = .returned (.tuple #[.int .i64 (if r.off then 0 else (r.room : Int)), .int .i64 (if r.off then 56 else 0)]) ∧ w' = w := by
  have HR := hide (room_any S w P r h hc hs)
  obtain ⟨vt, lt, vs, ls, h, ht, hs⟩ := h
  have c4 := cell_blk h.blk 4 (v := .bool r.off) rfl
  clear h ht hs
  cases hoff : r.off with
  | true =>
    rw [hoff] at c4
    go_enter Try.func39, Try.ntmps39
    go_wp2
    go_ret2
    exact ⟨rfl, rfl⟩
  | false =>
    rw [hoff] at c4
    go_enter Try.func39, Try.ntmps39
    go_wp2_with (go_at_call 55; refine HR.out.mono ?_; rintro e w1 ⟨rfl, hw⟩; have hw := hw.symm; subst hw)
    go_ret2
    exact ⟨rfl, rfl⟩
end DP
end Go.Proofs.Ytilpidioengnbaa
