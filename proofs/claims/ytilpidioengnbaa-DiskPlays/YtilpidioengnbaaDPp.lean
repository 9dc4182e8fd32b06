import Derived.Test.YtilpidioengnbaaDPm
import Derived.Test.YtilpidioengnbaaDSee
import Derived.Test.YtilpidioengnbaaRLst
import Derived.BigQuiet
import Derived.Deep.Cut
import Derived.Deep.Onto
/- DiskPlays: the document's lists of segments in memory; place. -/
namespace Go.Proofs.Ytilpidioengnbaa
namespace DP
open Go.RowKit

/-- a segment with the slice that holds its bytes -/
structure Sv where
  k : Int
  b : List Nat
  v : Value
def Sv.sg (e : Sv) : Sg := (e.k, e.b)
def rowS (L : List Sv) : List Value := L.flatMap fun e => [.int .i64 e.k, e.v]
theorem rowS_len (L : List Sv) : (rowS L).length = L.length * 2 := by
  induction L with
  | nil => rfl
  | cons e r ih => simp [rowS] at ih ⊢; omega
theorem rowS_append (a b : List Sv) : rowS (a ++ b) = rowS a ++ rowS b := by simp [rowS]
theorem rowS_at : ∀ {L : List Sv} {i : Nat} {e : Sv}, L[i]? = some e → (rowS L)[i * 2]? = some (.int .i64 e.k) ∧ (rowS L)[i * 2 + 1]? = some e.v
  | [], _, _, h => by simp at h
  | x :: r, 0, e, h => by
    simp at h
    subst h
    exact ⟨rfl, rfl⟩
  | x :: r, i + 1, e, h => by
    have ih := rowS_at (L := r) (i := i) (e := e) (by simpa using h)
    have e1 : rowS (x :: r) = .int .i64 x.k :: x.v :: rowS r := rfl
    rw [e1, show (i + 1) * 2 = i * 2 + 1 + 1 by omega]
    simpa using ih
/-- the first one of a number -/
def idxK : List Sv → Int → Option Nat
  | [], _ => none
  | e :: r, k => if e.k = k then some 0 else (idxK r k).map (· + 1)
theorem idxK_none : ∀ {L : List Sv} {k : Int}, idxK L k = none ↔ ∀ (j : Nat) (e : Sv), L[j]? = some e → e.k ≠ k
  | [], k => by simp [idxK]
  | x :: r, k => by
    simp only [idxK]
    split
    · rename_i h
      exact ⟨fun e => by (cases e), fun e => absurd h (e 0 x rfl)⟩
    · rename_i h
      rw [Option.map_eq_none_iff, idxK_none]
      refine ⟨fun e j y hj => ?_, fun e j y hj => e (j + 1) y (by simpa using hj)⟩
      cases j with
      | zero => simp at hj; subst hj; exact h
      | succ j => exact e j y (by simpa using hj)
theorem idxK_first : ∀ {L : List Sv} {k : Int} {i : Nat} {e : Sv}, L[i]? = some e → e.k = k → (∀ (j : Nat) (x : Sv), j < i → L[j]? = some x → x.k ≠ k) → idxK L k = some i
  | [], _, _, _, h, _, _ => by simp at h
  | x :: r, k, 0, e, h, hk, _ => by
    simp at h
    subst h
    simp [idxK, hk]
  | x :: r, k, i + 1, e, h, hk, hp => by
    have h0 := hp 0 x (by omega) rfl
    simp only [idxK]
    rw [if_neg h0, idxK_first (L := r) (i := i) (e := e) (by simpa using h) hk fun j y hj hy => hp (j + 1) y (by omega) (by simpa using hy)]
    rfl
theorem idxK_look {L : List Sv} {k : Int} : (idxK L k = none ↔ lookS (L.map Sv.sg) k = none) ∧ ∀ i, idxK L k = some i → ∃ e, L[i]? = some e ∧ e.k = k ∧ lookS (L.map Sv.sg) k = some e.b := by
  induction L with
  | nil => exact ⟨by simp [idxK, lookS], fun i h => by simp [idxK] at h⟩
  | cons x r ih =>
    have e1 : lookS ((x :: r).map Sv.sg) k = if x.k = k then some x.b else lookS (r.map Sv.sg) k := rfl
    rw [e1]
    simp only [idxK]
    by_cases h : x.k = k
    · rw [if_pos h, if_pos h]
      exact ⟨by simp, fun i hi => by injection hi with hi; subst hi; exact ⟨x, rfl, h, rfl⟩⟩
    · rw [if_neg h, if_neg h]
      refine ⟨by rw [Option.map_eq_none_iff]; exact ih.1, fun i hi => ?_⟩
      cases hq : idxK r k with
      | none => rw [hq] at hi; cases hi
      | some j =>
        rw [hq] at hi
        injection hi with hi
        subst hi
        obtain ⟨e, h1, h2, h3⟩ := ih.2 j hq
        exact ⟨e, by simpa using h1, h2, h3⟩
/-- the same as an int: -1 for none -/
def atK (L : List Sv) (k : Int) : Int := match idxK L k with | some i => (i : Int) | none => -1
theorem atK_some {L : List Sv} {k : Int} {i : Nat} (h : idxK L k = some i) : atK L k = i := by unfold atK; rw [h]
theorem atK_none {L : List Sv} {k : Int} (h : idxK L k = none) : atK L k = -1 := by unfold atK; rw [h]
/-- a list of segments in memory, each one's bytes in a block of its own -/
structure LsIn (S : Nat → Prop) (w : World) (v : Value) (L : List Sv) : Prop where
  row : w.ownsRow 0 77 2 v L.length (rowS L)
  by8 : ∀ e ∈ L, Row w e.v e.b
  sep : L.Pairwise fun a b => ∀ g, a.v.ownBlock = some g → b.v.ownBlock ≠ some g
  sv : ∀ g, v.ownBlock = some g → S g
  sb : ∀ e ∈ L, ∀ g, e.v.ownBlock = some g → S g
theorem ownsRow_sh {w : World} {b : Nat} {e : TypeId} {size : Nat} {v : Value} {n : Nat} {xs : List Value} (h : w.ownsRow b e size v n xs) : ∃ a c, v = .slice a n c ∧ (a = none → c = 0) ∧ n ≤ c := by
  rcases h.2 with ⟨rfl, rfl⟩ | ⟨g, cap, cur, h1, h2, _, h3, _⟩
  · exact ⟨_, _, rfl, fun _ => rfl, Nat.le_refl _⟩
  · exact ⟨_, _, h1, (fun e => by cases e), h3⟩
theorem row_at {w : World} {B : Nat} {v : Value} {L : List Sv} (h : w.ownsRow B 77 2 v L.length (rowS L)) {i : Nat} {e : Sv} (hi : L[i]? = some e) : ∃ g cap, v = .slice (some ⟨g, 0, none⟩) L.length cap ∧ w.cell? ⟨g, i * 2, none⟩ = some (.int .i64 e.k) ∧ w.cell? ⟨g, i * 2 + 1, none⟩ = some e.v := by
  have hl := (List.getElem?_eq_some_iff.1 hi).1
  obtain ⟨h1, h2⟩ := rowS_at hi
  rcases h.2 with ⟨_, h0⟩ | ⟨g, cap, cur, rfl, _⟩
  · omega
  · have c1 := h.cells (g := g) rfl (i * 2) _ h1
    have c2 := h.cells (g := g) rfl (i * 2 + 1) _ h2
    rw [Addr.add_mid, Nat.zero_add] at c1 c2
    exact ⟨g, cap, rfl, c1, c2⟩
theorem LsIn.stay {S : Nat → Prop} {w w' : World} {v : Value} {L : List Sv} (h : LsIn S w v L) {T : Nat → Prop} (hk : Keep T w w') (hT : ∀ g, g < w.heap.size → S g → ¬ T g) : LsIn S w' v L :=
  ⟨ownsRow_keep h.row hk fun g e => hT g (h.row.lt g e).2 (h.sv g e), fun e he => (h.by8 e he).keep hk fun g e2 => hT g ((h.by8 e he).1.lt g e2).2 (h.sb e he g e2), h.sep, h.sv, h.sb⟩
theorem LsIn.mono {S T : Nat → Prop} {w : World} {v : Value} {L : List Sv} (h : LsIn S w v L) (hT : ∀ g, S g → T g) : LsIn T w v L := ⟨h.row, h.by8, h.sep, fun g e => hT g (h.sv g e), fun e he g e2 => hT g (h.sb e he g e2)⟩

set_option maxRecDepth 100000 in
set_option maxHeartbeats 4000000 in
theorem place_any (v : Value) (L : List Sv) (k : Int) (w : World) (h : w.ownsRow 0 77 2 v L.length (rowS L)) (hl : L.length ≤ 4398046511104) :
    Calls Try.prog 54 #[v, .int .i64 k] w fun e w' => e = .returned (.int .i64 (atK L k)) ∧ w' = w := by
  obtain ⟨a, c, rfl, _⟩ := ownsRow_sh h
  have HR := hide h
  clear h
  go_enter Try.func54, Try.ntmps54
  go_wp2_with fail
  go_loopw [5] (fun iv wr => ∃ i : Nat, iv = .int .i64 (i : Nat) ∧ i ≤ L.length ∧ Hid (∀ (j : Nat) (e : Sv), j < i → L[j]? = some e → e.k ≠ k) ∧ Hid (wr = w)) (fun iv _ => L.length - (intOf iv).toNat)
  case atStart => exact ⟨0, rfl, Nat.zero_le _, fun j e hj => by omega, rfl⟩
  case round =>
    obtain ⟨i, rfl, hi, HF, HW⟩ := hrel
    obtain rfl := HW.out
    by_cases hlt : i < L.length
    · have hlt' : (i : Int) < (L.length : Int) := by omega
      obtain ⟨e, he⟩ : ∃ e, L[i]? = some e := ⟨_, List.getElem?_eq_getElem hlt⟩
      obtain ⟨g, cap, hv, c0, _⟩ := row_at HR.out he
      injection hv with hv1 _ hv2
      subst hv1
      have HE := hide he
      by_cases hk : e.k = k
      · have hid := atK_some (idxK_first he hk HF.out)
        rw [hk] at c0
        have HD := hide hid
        clear he hid hv2 hk
        go_wp2
        go_ret
        refine ⟨?_, rfl⟩
        rw [HD.out]
        rfl
      · have hkb : (e.k == k) = false := by simpa using hk
        have HK := hide hk
        have HF' : Hid (∀ (j : Nat) (x : Sv), j < i + 1 → L[j]? = some x → x.k ≠ k) := fun j x hj hx => by
          by_cases hji : j < i
          · exact HF.out j x hji hx
          · obtain rfl : j = i := by omega
            rw [he] at hx
            injection hx with hx
            subst hx
            exact hk
        clear he hv2 hk HF
        go_wp2
        go_roundw
        case rel =>
          exact ⟨i + 1, by go_num, by omega, HF', trivial⟩
        case measure => simp [intOf]; omega
    · have hlt' : ¬ (i : Int) < (L.length : Int) := by omega
      have hid : atK L k = -1 := atK_none <| idxK_none.2 fun j e hj => HF.out j e (by have := (List.getElem?_eq_some_iff.1 hj).1; omega) hj
      have HD := hide hid
      clear hid
      go_wp2
      go_ret
      refine ⟨?_, rfl⟩
      rw [HD.out]
      rfl
end DP
end Go.Proofs.Ytilpidioengnbaa

/- DiskPlays: the document's lists: without. -/
namespace Go.Proofs.Ytilpidioengnbaa
namespace DP
open Go.RowKit

def wo (L : List Sv) (k : Int) : List Sv := L.filter fun e => e.k != k
theorem wo_take {L : List Sv} {k : Int} {i : Nat} {e : Sv} (h : L[i]? = some e) : wo (L.take (i + 1)) k = if e.k = k then wo (L.take i) k else wo (L.take i) k ++ [e] := by
  have hi := (List.getElem?_eq_some_iff.1 h).1
  have he := (List.getElem?_eq_some_iff.1 h).2
  unfold wo
  rw [List.take_succ_eq_append_getElem hi, List.filter_append, he]
  by_cases hk : e.k = k <;> simp [hk]
theorem wo_len (L : List Sv) (k : Int) : (wo L k).length ≤ L.length := List.length_filter_le _ _
theorem rowS_one {L : List Sv} {e : Sv} : rowS (L ++ [e]) = rowS L ++ [.int .i64 e.k, e.v] := by rw [rowS_append]; rfl

set_option maxRecDepth 100000 in
set_option maxHeartbeats 4000000 in
theorem without_any (v : Value) (L : List Sv) (k : Int) (w : World) (h : w.ownsRow 0 77 2 v L.length (rowS L)) (hv1 : ∀ e ∈ L, e.v.oneCell' = true) (hl : L.length ≤ 1099511627776) :
    Calls Try.prog 58 #[v, .int .i64 k] w fun e w' => ∃ v', e = .returned v' ∧ w'.ownsRow w.heap.size 77 2 v' (wo L k).length (rowS (wo L k)) ∧ Keep (fun _ => False) w w' := by
  obtain ⟨a, c, rfl, _⟩ := ownsRow_sh h
  obtain ⟨i0, hi, hz0, hz1, hz2⟩ := info_parts info_seg
  have HR := hide h
  have HV := hide hv1
  clear h hv1
  go_enter Try.func58, Try.ntmps58
  go_wp2_with fail
  go_loopw [5, 6] (fun v iv wr => ∃ i : Nat, iv = .int .i64 (i : Nat) ∧ i ≤ L.length ∧ wr.ownsRow w.heap.size 77 2 v (wo (L.take i) k).length (rowS (wo (L.take i) k)) ∧ Hid (Keep (fun _ => False) w wr)) (fun _ iv _ => L.length - (intOf iv).toNat)
  case atStart => exact ⟨0, rfl, Nat.zero_le _, World.ownsRow_nil _ _ _ _, Keep.refl _ _⟩
  case round =>
    obtain ⟨i, rfl, hil, hrow, HK⟩ := hrel
    by_cases hlt : i < L.length
    · have hlt' : (i : Int) < (L.length : Int) := by omega
      obtain ⟨e, he⟩ : ∃ e, L[i]? = some e := ⟨_, List.getElem?_eq_getElem hlt⟩
      have HE1 := hide (HV.out e (List.mem_of_getElem? he))
      have hRw := ownsRow_keep HR.out HK.out fun _ _ f => f
      obtain ⟨g, cap, hv, c0, c1⟩ := row_at hRw he
      injection hv with hv1 _ hv2
      subst hv1
      have htk := wo_take (k := k) he
      have hwl := wo_len (L.take i) k
      have htl : (L.take i).length ≤ i := List.length_take_le _ _
      have hw : wrap64 ((i : Int) + 1) = ((i + 1 : Nat) : Int) := wr' (by omega) (by omega) (by omega)
      clear hRw
      by_cases hk : e.k = k
      · have hkb : (e.k != k) = false := by simpa using hk
        rw [if_pos hk] at htk
        have HT := hide htk
        clear he hv2 htk
        go_wp2
        go_roundw
        case rel => exact ⟨i + 1, by go_num, by omega, by rw [HT.out]; exact hrow, HK⟩
        case measure => simp [intOf]; omega
      · have hkb : (e.k != k) = true := by simpa using hk
        rw [if_neg hk] at htk
        have HT := hide htk
        have HIL := hide hil
        clear he hv2 htk hil
        go_wp2_with (first
            | (at_builtin; refine wpList_append_own_at _ rfl _ _ 45 rfl w.heap.size 77 i0 (.agg #[.int .i64 0, .slice none 0 0]) 2 32 Try.underlying45 hi hz0 hz1 hz2 rfl (by decide) _ _ _ rfl (hrow.alloc _) ⟨wr.heap.size, 0, none⟩ 1 1 [.int .i64 e.k, e.v] rfl rfl ?c1 ?c2 ?c3 ?c4 ?c5 ?_)
            | go_in)
        case c2 => exact ⟨rfl, HE1.out⟩
        case c3 => have := HIL.out; unfold maxLen; omega
        case c4 => have := HIL.out; omega
        case c5 => have := HK.out.size; omega
        · intro v' w4 hown' hgrow _ hloc
          have HK4 : Hid (Keep (fun _ => False) w w4) := by
            have k4 : Keep (fun i => u5.ownBlock = some i) wr w4 := ((Keep.alloc _ _ _).more (Keep.grown hgrow fun k e => e))
            exact HK.out.trans k4 fun i e => .inr (hrow.lt i e).1
          have hown4 : w4.ownsRow w.heap.size 77 2 v' (wo (L.take (i + 1)) k).length (rowS (wo (L.take (i + 1)) k)) := by
            rw [HT.out, rowS_one]
            simpa using hown'
          clear hown' hgrow hloc hrow
          go_wp2
          go_roundw
          case rel => exact ⟨i + 1, by go_num, by omega, hown4, HK4⟩
          case measure => simp [intOf]; omega
    · have hlt' : ¬ (i : Int) < (L.length : Int) := by omega
      obtain rfl : i = L.length := by omega
      rw [List.take_length] at hrow
      go_wp2
      go_ret
      exact ⟨_, rfl, hrow, HK⟩
end DP
end Go.Proofs.Ytilpidioengnbaa

/- DiskPlays: the document's lists: with. -/
namespace Go.Proofs.Ytilpidioengnbaa
namespace DP
open Go.RowKit

def insV : List Sv → Sv → List Sv
  | [], s => [s]
  | e :: r, s => if s.k < e.k then s :: e :: r else e :: insV r s
theorem insV_sg (L : List Sv) (s : Sv) : (insV L s).map Sv.sg = insS (L.map Sv.sg) s.sg := by
  induction L with
  | nil => rfl
  | cons e r ih =>
    simp only [insV, List.map_cons, insS]
    have e1 : (s.sg.1 < e.sg.1) = (s.k < e.k) := rfl
    simp only [e1]
    split
    · rfl
    · rw [List.map_cons, ih]
theorem insV_mem {L : List Sv} {s x : Sv} : x ∈ insV L s ↔ x = s ∨ x ∈ L := by
  induction L with
  | nil => simp [insV]
  | cons e r ih =>
    simp only [insV]
    split
    · simp
    · simp only [List.mem_cons, ih]
      constructor
      · rintro (h | h | h)
        · exact .inr (.inl h)
        · exact .inl h
        · exact .inr (.inr h)
      · rintro (h | h | h)
        · exact .inr (.inl h)
        · exact .inl h
        · exact .inr (.inr h)
theorem insV_len (L : List Sv) (s : Sv) : (insV L s).length = L.length + 1 := by
  induction L with
  | nil => rfl
  | cons e r ih =>
    simp only [insV]
    split
    · rfl
    · simp [ih]
theorem insV_behind {A : List Sv} {s : Sv} (h : ∀ x ∈ A, ¬ s.k < x.k) (B : List Sv) : insV (A ++ B) s = A ++ insV B s := by
  induction A with
  | nil => rfl
  | cons e r ih =>
    rw [List.cons_append, insV, if_neg (h e List.mem_cons_self), ih fun x hx => h x (List.mem_cons_of_mem _ hx)]
    rfl
theorem insV_done {A : List Sv} {s : Sv} (h : ∃ x ∈ A, s.k < x.k) (B : List Sv) : insV (A ++ B) s = insV A s ++ B := by
  induction A with
  | nil => obtain ⟨x, hx, _⟩ := h; cases hx
  | cons e r ih =>
    rw [List.cons_append, insV, insV]
    split
    · rfl
    · rename_i hn
      rw [ih ?_]
      · rfl
      · obtain ⟨x, hx, h⟩ := h
        rcases List.mem_cons.1 hx with rfl | hx
        · exact absurd h hn
        · exact ⟨x, hx, h⟩
/-- what stands between two rounds -/
def Par (L : List Sv) (s : Sv) (i : Nat) (done : Bool) (out : List Sv) : Prop :=
  (done = true ∧ (∃ x ∈ L.take i, s.k < x.k) ∧ out = insV (L.take i) s) ∨ (done = false ∧ (∀ x ∈ L.take i, ¬ s.k < x.k) ∧ out = L.take i)
theorem Par.len {L : List Sv} {s : Sv} {i : Nat} {done : Bool} {out : List Sv} (h : Par L s i done out) : out.length ≤ i + 1 := by
  have htl : (L.take i).length ≤ i := List.length_take_le _ _
  rcases h with ⟨_, _, rfl⟩ | ⟨_, _, rfl⟩
  · rw [insV_len]; omega
  · omega
theorem take_at {L : List Sv} {i : Nat} {e : Sv} (h : L[i]? = some e) : L.take (i + 1) = L.take i ++ [e] := by
  have hi := (List.getElem?_eq_some_iff.1 h).1
  rw [List.take_succ_eq_append_getElem hi, (List.getElem?_eq_some_iff.1 h).2]
theorem Par.on {L : List Sv} {s : Sv} {i : Nat} {out : List Sv} {e : Sv} (h : Par L s i true out) (he : L[i]? = some e) : Par L s (i + 1) true (out ++ [e]) := by
  rcases h with ⟨_, h, rfl⟩ | ⟨h, _⟩
  · refine .inl ⟨rfl, ?_, ?_⟩
    · obtain ⟨x, hx, h⟩ := h
      exact ⟨x, by rw [take_at he]; exact List.mem_append_left _ hx, h⟩
    · rw [take_at he, insV_done h]
  · cases h
theorem Par.put {L : List Sv} {s : Sv} {i : Nat} {out : List Sv} {e : Sv} (h : Par L s i false out) (he : L[i]? = some e) (hk : s.k < e.k) : Par L s (i + 1) true (out ++ [s] ++ [e]) := by
  rcases h with ⟨h, _⟩ | ⟨_, h, rfl⟩
  · cases h
  · refine .inl ⟨rfl, ⟨e, by rw [take_at he]; simp, hk⟩, ?_⟩
    rw [take_at he, insV_behind h, insV, if_pos hk, List.append_assoc]
    rfl
theorem Par.pass {L : List Sv} {s : Sv} {i : Nat} {out : List Sv} {e : Sv} (h : Par L s i false out) (he : L[i]? = some e) (hk : ¬ s.k < e.k) : Par L s (i + 1) false (out ++ [e]) := by
  rcases h with ⟨h, _⟩ | ⟨_, h, rfl⟩
  · cases h
  · refine .inr ⟨rfl, fun x hx => ?_, (take_at he).symm⟩
    rw [take_at he] at hx
    rcases List.mem_append.1 hx with hx | hx
    · exact h x hx
    · simp at hx; rw [hx]; exact hk
theorem Par.end_ {L : List Sv} {s : Sv} {done : Bool} {out : List Sv} (h : Par L s L.length done out) : (if done then out else out ++ [s]) = insV L s := by
  rcases h with ⟨rfl, _, rfl⟩ | ⟨rfl, h, rfl⟩
  · simp
  · rw [List.take_length] at h ⊢
    have := insV_behind h []
    rw [List.append_nil] at this
    rw [this]
    rfl
/-- a segment more behind a row of the call's own -/
theorem wp_app_sv {w : World} {ops : Array Oper} {rest : List Oper} {o : Oper} {a : Act} {Q : Exit → Act → World → Prop} (hgd : o.guard = none) (s x : Operand)
    (ho : o.op = .call { callee := .builtin .append, args := #[s, x], argTypes := #[45, 45] })
    (base : Nat) (v : Value) (n : Nat) (xs : List Value) (hs : a.eval s = v) (hown : w.ownsRow base 77 2 v n xs) (B : Nat) (k : Int) (rv : Value) (hx : a.eval x = .slice (some ⟨B, 0, none⟩) 1 1) (hq : w.heap[B]? = some (.cells #[.int .i64 k, rv] 77 (0, 0))) (h1 : rv.oneCell' = true) (hn : n ≤ 2199023255552) (hbase : base ≤ w.heap.size)
    (h : ∀ v' w', w'.ownsRow base 77 2 v' (n + 1) (xs ++ [.int .i64 k, rv]) → Keep (fun k => v.ownBlock = some k) w w' → wpList Try.prog ops Q rest (a.put o.dst v') w') : wpList Try.prog ops Q (o :: rest) a w := by
  obtain ⟨i0, hi, hz0, hz1, hz2⟩ := info_parts info_seg
  refine wpList_append_own_at _ hgd s x 45 ho base 77 i0 _ 2 32 Try.underlying45 hi hz0 hz1 hz2 rfl (by decide) v n xs hs hown ⟨B, 0, none⟩ 1 1 [.int .i64 k, rv] hx rfl (fun j u hu => ?_) (fun u hu => ?_) (by unfold maxLen; omega) (by omega) hbase ?_
  · have e : (⟨B, 0, none⟩ : Addr).add j = ⟨B, j, none⟩ := by unfold Addr.add; split <;> simp_all
    rw [e, cell_of_row _ _ _ _ _ _ hq]
    simpa using hu
  · simp at hu
    rcases hu with rfl | rfl
    · rfl
    · exact h1
  · intro v' w' h1 h2 _ _
    exact h v' w' h1 (Keep.grown h2 fun k e => e)
def news (k : Int) : Sv := ⟨k, [], .slice none 0 0⟩

set_option maxRecDepth 100000 in
set_option maxHeartbeats 8000000 in
theorem with_any (v : Value) (L : List Sv) (k : Int) (w : World) (h : w.ownsRow 0 77 2 v L.length (rowS L)) (hv1 : ∀ e ∈ L, e.v.oneCell' = true) (hl : L.length ≤ 1099511627776) :
    Calls Try.prog 56 #[v, .agg #[.int .i64 k, .slice none 0 0]] w fun e w' => ∃ v', e = .returned v' ∧ w'.ownsRow w.heap.size 77 2 v' (insV L (news k)).length (rowS (insV L (news k))) ∧ Keep (fun _ => False) w w' := by
  obtain ⟨a, c, rfl, _⟩ := ownsRow_sh h
  obtain ⟨i0, hi, hz0, hz1, hz2⟩ := info_parts info_seg
  have HR := hide h
  have HV := hide hv1
  clear h hv1
  go_enter Try.func56, Try.ntmps56
  go_wp2_with fail
  obtain ⟨w1, hw1⟩ : ∃ w1, w1 = w.alloc (.cells #[.int .i64 k, .slice none 0 0] 77) := ⟨_, rfl⟩
  have hb1 : w1.heap[w.heap.size]? = some (.cells #[.int .i64 k, .slice none 0 0] 77 (0, 0)) := by rw [hw1]; exact heap_alloc_new w _
  have K1 : Hid (Keep (fun _ => False) w w1) := by rw [hw1]; exact Keep.alloc _ _ _
  have HB1 := hide hb1
  have hsz1 : w1.heap.size = w.heap.size + 1 := by rw [hw1, World.size_alloc]
  rw [← hw1]
  clear hw1 hb1
  go_loopw [5, 6, 7] (fun v dv iv wr => ∃ (i : Nat) (d : Bool) (out : List Sv), iv = .int .i64 (i : Nat) ∧ dv = .bool d ∧ i ≤ L.length ∧ wr.ownsRow w1.heap.size 77 2 v out.length (rowS out) ∧ Hid (Keep (fun _ => False) w1 wr) ∧ Hid (Par L (news k) i d out)) (fun _ _ iv _ => L.length - (intOf iv).toNat)
  case atStart => exact ⟨0, false, [], rfl, rfl, Nat.zero_le _, World.ownsRow_nil _ _ _ _, Keep.refl _ _, .inr ⟨rfl, by simp, rfl⟩⟩
  case round =>
    obtain ⟨i, d, out, rfl, rfl, hil, hrow, HK, HP⟩ := hrel
    have hol := HP.out.len
    have bk : wr.heap[w.heap.size]? = some (.cells #[.int .i64 k, .slice none 0 0] 77 (0, 0)) := (HK.out.block _ (by omega) fun f => f).trans HB1.out
    have ck0 : wr.cell? ⟨w.heap.size, 0, none⟩ = some (.int .i64 k) := cell_blk bk 0 rfl
    have ck1 : wr.cell? ⟨w.heap.size, 1, none⟩ = some (.slice none 0 0) := cell_blk bk 1 rfl
    have hszr := HK.out.size
    clear bk
    by_cases hlt : i < L.length
    · have hlt' : (i : Int) < (L.length : Int) := by omega
      obtain ⟨e, he⟩ : ∃ e, L[i]? = some e := ⟨_, List.getElem?_eq_getElem hlt⟩
      have HE1 := hide (HV.out e (List.mem_of_getElem? he))
      have kwr : Keep (fun _ => False) w wr := K1.out.more HK.out
      have hRw := ownsRow_keep HR.out kwr fun _ _ f => f
      obtain ⟨g, cap, hv, c0, c1⟩ := row_at hRw he
      injection hv with hv1 _ hv2
      subst hv1
      have hw : wrap64 ((i : Int) + 1) = ((i + 1 : Nat) : Int) := wr' (by omega) (by omega) (by omega)
      have HE := hide he
      have HIL := hide hil
      clear hRw hv2 he hil kwr
      cases d with
      | true =>
        have HP' := hide (HP.out.on HE.out)
        go_wp2_with fail
        go_quiet (fail)
        obtain ⟨w3, hw3⟩ : ∃ w3, w3 = wr.drewN nq := ⟨_, rfl⟩
        have HK3 : Hid (Keep (fun _ => False) wr w3) := by rw [hw3]; exact ⟨rfl, rfl, rfl, Nat.le_refl _, fun _ _ _ => rfl⟩
        have c0' := HK3.out.cell c0 fun f => f
        have c1' := HK3.out.cell c1 fun f => f
        have ck0' := HK3.out.cell ck0 fun f => f
        have ck1' := HK3.out.cell ck1 fun f => f
        have hrow3 := ownsRow_keep hrow HK3.out fun _ _ f => f
        have hsz3 := HK3.out.size
        rw [← hw3]
        clear hw3 c0 c1 ck0 ck1
        go_wp2_with (first | (at_builtin; refine wp_app_sv rfl _ _ rfl w1.heap.size _ _ _ rfl (hrow3.alloc _) _ _ _ rfl (heap_alloc_new _ _) HE1.out ?b1 ?b2 ?_) | go_in)
        case b1 => have := HIL.out; omega
        case b2 => first | (simp only [World.size_alloc]; omega) | omega
        intro v' w4 hown' hkp
        have HK4 : Hid (Keep (fun _ => False) w1 w4) := HK.out.trans ((HK3.out.mono fun _ f => f.elim).more ((Keep.alloc _ _ _).more hkp)) fun i e => .inr (hrow.lt i e).1
        have hown4 : w4.ownsRow w1.heap.size 77 2 v' (out ++ [e]).length (rowS (out ++ [e])) := by
          rw [hsz1, rowS_one]
          simpa using hown'
        clear hown' hkp hrow hrow3
        go_wp2
        go_roundw
        case rel => exact ⟨i + 1, true, out ++ [e], by go_num, rfl, (by have := HIL.out; omega), hown4, HK4, HP'⟩
        case measure => simp [intOf]; omega
      | false =>
        by_cases hk : k < e.k
        · have HP' := hide (HP.out.put HE.out hk)
          have hkb : e.k > k := hk
          go_wp2_with fail
          go_quiet (fail)
          obtain ⟨w3, hw3⟩ : ∃ w3, w3 = wr.drewN nq := ⟨_, rfl⟩
          have HK3 : Hid (Keep (fun _ => False) wr w3) := by rw [hw3]; exact ⟨rfl, rfl, rfl, Nat.le_refl _, fun _ _ _ => rfl⟩
          have c0' := HK3.out.cell c0 fun f => f
          have c1' := HK3.out.cell c1 fun f => f
          have ck0' := HK3.out.cell ck0 fun f => f
          have ck1' := HK3.out.cell ck1 fun f => f
          have hrow3 := ownsRow_keep hrow HK3.out fun _ _ f => f
          have hsz3 := HK3.out.size
          rw [← hw3]
          clear hw3 c0 c1 ck0 ck1
          go_wp2_with (first | (at_builtin; refine wp_app_sv rfl _ _ rfl w1.heap.size _ _ _ rfl (hrow3.alloc _) _ _ _ rfl (heap_alloc_new _ _) rfl ?b1 ?b2 ?_) | go_in)
          case b1 => have := HIL.out; omega
          case b2 => first | (simp only [World.size_alloc]; omega) | omega
          intro v5 w5 hown' hkp
          have HK5 : Hid (Keep (fun i => u5.ownBlock = some i) w3 w5) := (Keep.alloc _ _ _).more hkp
          have HKw5 : Hid (Keep (fun _ => False) w1 w5) := HK.out.trans ((HK3.out.mono fun _ f => f.elim).more HK5.out) fun i e => .inr (hrow.lt i e).1
          have hlg : g < w.heap.size := (HR.out.lt g rfl).2
          have c0'' : w5.cell? ⟨g, i * 2, none⟩ = some (.int .i64 e.k) := HK5.out.cell c0' fun e => by have := (hrow.lt g e).1; omega
          have c1'' : w5.cell? ⟨g, i * 2 + 1, none⟩ = some e.v := HK5.out.cell c1' fun e => by have := (hrow.lt g e).1; omega
          have hrow5 : w5.ownsRow w1.heap.size 77 2 v5 (out ++ [news k]).length (rowS (out ++ [news k])) := by
            rw [hsz1, rowS_one]
            simpa [news] using hown'
          have hsz5 := HKw5.out.size
          clear hown' hkp hrow3 c0' c1' ck0' ck1'
          go_wp2_with (first | (at_builtin; refine wp_app_sv rfl _ _ rfl w1.heap.size _ _ _ rfl (hrow5.alloc _) _ _ _ rfl (heap_alloc_new _ _) HE1.out ?b1 ?b2 ?_) | go_in)
          case b1 => have := HIL.out; simp; omega
          case b2 => first | (simp only [World.size_alloc]; omega) | omega
          intro v' w4 hown' hkp
          have HK4 : Hid (Keep (fun _ => False) w1 w4) := HKw5.out.trans ((Keep.alloc _ _ _).more hkp) fun i e => .inr (hrow5.lt i e).1
          have hown4 : w4.ownsRow w1.heap.size 77 2 v' (out ++ [news k] ++ [e]).length (rowS (out ++ [news k] ++ [e])) := by
            rw [hsz1, rowS_one]
            simpa using hown'
          clear hown' hkp hrow hrow5
          go_wp2
          go_roundw
          case rel => exact ⟨i + 1, true, out ++ [news k] ++ [e], by go_num, rfl, (by have := HIL.out; omega), hown4, HK4, HP'⟩
          case measure => simp [intOf]; omega
        · have HP' := hide (HP.out.pass HE.out hk)
          have hkb : ¬ e.k > k := hk
          go_wp2_with fail
          go_quiet (fail)
          obtain ⟨w3, hw3⟩ : ∃ w3, w3 = wr.drewN nq := ⟨_, rfl⟩
          have HK3 : Hid (Keep (fun _ => False) wr w3) := by rw [hw3]; exact ⟨rfl, rfl, rfl, Nat.le_refl _, fun _ _ _ => rfl⟩
          have c0' := HK3.out.cell c0 fun f => f
          have c1' := HK3.out.cell c1 fun f => f
          have ck0' := HK3.out.cell ck0 fun f => f
          have ck1' := HK3.out.cell ck1 fun f => f
          have hrow3 := ownsRow_keep hrow HK3.out fun _ _ f => f
          have hsz3 := HK3.out.size
          rw [← hw3]
          clear hw3 c0 c1 ck0 ck1
          go_wp2_with (first | (at_builtin; refine wp_app_sv rfl _ _ rfl w1.heap.size _ _ _ rfl (hrow3.alloc _) _ _ _ rfl (heap_alloc_new _ _) HE1.out ?b1 ?b2 ?_) | go_in)
          case b1 => have := HIL.out; omega
          case b2 => first | (simp only [World.size_alloc]; omega) | omega
          intro v' w4 hown' hkp
          have HK4 : Hid (Keep (fun _ => False) w1 w4) := HK.out.trans ((HK3.out.mono fun _ f => f.elim).more ((Keep.alloc _ _ _).more hkp)) fun i e => .inr (hrow.lt i e).1
          have hown4 : w4.ownsRow w1.heap.size 77 2 v' (out ++ [e]).length (rowS (out ++ [e])) := by
            rw [hsz1, rowS_one]
            simpa using hown'
          clear hown' hkp hrow hrow3
          go_wp2
          go_roundw
          case rel => exact ⟨i + 1, false, out ++ [e], by go_num, rfl, (by have := HIL.out; omega), hown4, HK4, HP'⟩
          case measure => simp [intOf]; omega
    · have hlt' : ¬ (i : Int) < (L.length : Int) := by omega
      obtain rfl : i = L.length := by omega
      have HEn := hide HP.out.end_
      cases d with
      | true =>
        have HEn' := hide (show out = insV L (news k) by simpa using HEn.out)
        have kw : Keep (fun _ => False) w wr := K1.out.more HK.out
        have HKw := hide kw
        have hrow' : wr.ownsRow w.heap.size 77 2 u5 (insV L (news k)).length (rowS (insV L (news k))) := by
          rw [← HEn'.out]
          exact hrow.mono (by omega)
        clear kw hrow ck0 ck1
        go_wp2
        go_ret
        exact ⟨_, rfl, hrow', HKw⟩
      | false =>
        have HEn' := hide (show out ++ [news k] = insV L (news k) by simpa using HEn.out)
        go_wp2_with (first | (at_builtin; refine wp_app_sv rfl _ _ rfl w1.heap.size _ _ _ rfl (hrow.alloc _) _ _ _ rfl (heap_alloc_new _ _) rfl ?b1 ?b2 ?_) | go_in)
        case b1 => omega
        case b2 => first | (simp only [World.size_alloc]; omega) | omega
        intro v' w4 hown' hkp
        have HK4 : Hid (Keep (fun _ => False) w1 w4) := HK.out.trans ((Keep.alloc _ _ _).more hkp) fun i e => .inr (hrow.lt i e).1
        have HKw := hide (K1.out.more HK4.out)
        have hown4 : w4.ownsRow w.heap.size 77 2 v' (insV L (news k)).length (rowS (insV L (news k))) := by
          rw [← HEn'.out, rowS_one]
          have h2 : w4.ownsRow w.heap.size 77 2 v' (out.length + 1) (rowS out ++ [.int .i64 k, .slice none 0 0]) := hown'.mono (by omega)
          simpa [news] using h2
        clear hown' hkp hrow
        go_wp2
        go_ret
        exact ⟨_, rfl, hown4, HKw⟩
end DP
end Go.Proofs.Ytilpidioengnbaa
