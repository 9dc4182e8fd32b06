/- Package disk: room, spend, Down, Arm, Room, find. -/
import Derived.Test.YtilpidioengnbaaDSt
namespace Go.Proofs.Ytilpidioengnbaa
open Go.RowKit Go.Lib

section
variable {S : Nat → Prop} {w w' : World} {p : Nat} {s : St} {bt bo : Nat} {val : Int → Value}
theorem DIn.cells (h : DIn S w p s bt bo val) (s' : St) (h1 : s'.there = s.there) (h2 : s'.safe = s.safe) (hk : Keep (fun k => k = p) w w') (hb : w'.heap[p]? = some (.cells (dcells s' bt bo) 68 (0, 0))) : DIn S w' p s' bt bo val := by
  have hh : ∀ k, s'.held k = s.held k := fun k => by unfold St.held; rw [h1, h2]
  refine ⟨hb, by rw [h1]; exact h.mt.keep hk (fun e => h.pt e.symm), by rw [h1, h2]; exact h.mo.keep hk (fun e => h.po e.symm), h.ne, fun k l hl => ?_, fun k k' g a b => h.one k k' g (by rw [← hh]; exact a) (by rw [← hh]; exact b), fun k g a => h.own k g (by rw [← hh]; exact a), h.sp, h.st, h.so⟩
  rw [hh] at hl
  exact (h.row k l hl).keep hk fun g hg e => (h.gne hl hg).1 e
theorem DIn.set (h : DIn S w p s bt bo val) (s' : St) (h1 : s'.there = s.there) (h2 : s'.safe = s.safe) (j : Nat) (v : Value) (hv : (dcells s bt bo).setIfInBounds j v = dcells s' bt bo) : DIn S (w.setCell ⟨p, j, none⟩ v) p s' bt bo val :=
  h.cells s' h1 h2 (keep_cell w p j v) (by rw [← hv]; exact set_blk h.blk j v)
end

theorem wr {x : Int} (h1 : -9223372036854775808 ≤ x) (h2 : x ≤ 9223372036854775807) : IntKind.i64.wrap x = x := by
  rw [IntKind.wrap_i64]; omega
theorem wrap_id {n : Int} (h1 : -9223372036854775808 ≤ n) (h2 : n ≤ 9223372036854775807) : wrap64 n = n := by unfold wrap64; omega

theorem max_run (x y q : Int) (h : (if x < y then y else x) = q) : ∀ (ts : Array TypeId) (t : TypeId) (w : World), (Builtin.max_ ts t #[.int .i64 x, .int .i64 y]).run Try.prog w = .ok (.int .i64 q) w := fun ts t w => by
  rw [run_max_int2, h]
theorem min_run (x y : Int) (q : Int) (h : (if y < x then y else x) = q) : ∀ (ts : Array TypeId) (t : TypeId) (w : World), (Builtin.min_ ts t #[.int .i64 x, .int .i64 y]).run Try.prog w = .ok (.int .i64 q) w := fun ts t w => by
  rw [run_min_int2, h]

theorem room_any (S : Nat → Prop) (w : World) (p : Nat) (s : St) (bt bo : Nat) (val : Int → Value) (h : DIn S w p s bt bo val) (hc : s.cap ≤ 67108864) (hu : s.used < 1152921504606846976) :
    Calls Try.prog 47 #[.pointer (some ⟨p, 0, none⟩)] w fun e w' => e = .returned (.int .i64 (s.room : Nat)) ∧ ∃ n, w' = w.drewN n := by
  have c0 := h.c0
  have c1 := h.c1
  have hw := wrap_id (n := (s.cap : Int) - (s.used : Int)) (by omega) (by omega)
  have hr := max_run ((s.cap : Int) - (s.used : Int)) 0 ((s.room : Nat) : Int) (by unfold St.room; omega)
  have hw' : IntKind.i64.wrap ((s.cap : Int) - (s.used : Int)) = (s.cap : Int) - (s.used : Int) := wr (by omega) (by omega)
  clear h
  go_enter Try.func47, Try.ntmps47
  go_wp2
  go_quiet (fail)
  go_wp2
  go_ret
  exact ⟨ret_int (by unfold St.room; omega), _, rfl⟩

theorem down_any (S : Nat → Prop) (w : World) (p : Nat) (s : St) (h : DAt S w p s) : Calls Try.prog 15 #[.pointer (some ⟨p, 0, none⟩)] w fun e w' => e = .returned (.bool s.down) ∧ w' = w := by
  obtain ⟨bt, bo, val, h⟩ := h
  have c6 := h.c6
  clear h
  go_enter Try.func15, Try.ntmps15
  go_wp2
  go_ret
  exact ⟨rfl, rfl⟩

/-- what spend leaves -/
def Spent (S : Nat → Prop) (w : World) (p : Nat) (s : St) (bt bo : Nat) (val : Int → Value) (e : Ending) (w' : World) : Prop :=
  e = .returned (.int .i64 s.spend.1) ∧ DIn S w' p s.spend.2 bt bo val ∧ Keep (fun k => k = p) w w'

set_option maxRecDepth 10000 in
theorem spend_any (S : Nat → Prop) (w : World) (p : Nat) (s : St) (bt bo : Nat) (val : Int → Value) (h : DIn S w p s bt bo val) (hl : ∀ n, s.left = some n → n ≤ 9223372036854775807) :
    Calls Try.prog 48 #[.pointer (some ⟨p, 0, none⟩)] w (Spent S w p s bt bo val) := by
  have H := hide h
  have c4 := h.c4
  have c5 := h.c5
  have c6 := h.c6
  have f5 := h.fz 5
  have f6 := h.fz 6
  cases hle : s.left with
  | none =>
    rw [hle] at c4 c5
    have HL := hide hle
    clear hle h hl
    go_enter Try.func48, Try.ntmps48
    go_wp2
    go_ret
    have e1 : s.spend = (0, s) := by unfold St.spend; rw [HL.out]
    exact ⟨by rw [e1]; rfl, by rw [e1]; exact H.out, Keep.refl _ _⟩
  | some n =>
    rw [hle] at c4 c5
    have hn := hl n hle
    have HL := hide hle
    clear hle h hl
    cases n with
    | zero =>
      go_enter Try.func48, Try.ntmps48
      go_wp2
      go_ret
      have e1 : s.spend = (56, { s with down := true }) := by unfold St.spend; rw [HL.out]
      exact ⟨by rw [e1]; rfl, by rw [e1]; exact H.out.set { s with down := true } rfl rfl 6 _ rfl, keep_cell _ _ _ _⟩
    | succ n =>
      have h0 : ¬ ((n + 1 : Nat) : Int) = 0 := by omega
      have hw := wrap_id (n := ((n + 1 : Nat) : Int) - 1) (by omega) (by omega)
      have e2 : ((n + 1 : Nat) : Int) - 1 = (n : Int) := by omega
      rw [e2] at hw
      go_enter Try.func48, Try.ntmps48
      go_wp2
      go_ret
      have e1 : s.spend = (0, { s with left := some n }) := by unfold St.spend; rw [HL.out]
      exact ⟨by rw [e1]; rfl, by rw [e1]; exact H.out.set { s with left := some n } rfl rfl 5 _ (by simp [dcells, HL.out]; try omega), keep_cell _ _ _ _⟩

theorem Room_any (S : Nat → Prop) (w : World) (p : Nat) (s : St) (h : DAt S w p s) (ok : Ok s) :
    Calls Try.prog 24 #[.pointer (some ⟨p, 0, none⟩)] w fun e w' => e = .returned (.tuple #[.int .i64 (if s.down then 0 else (s.room : Nat)), .int .i64 (if s.down then 56 else 0)]) ∧ ∃ n, w' = w.drewN n := by
  obtain ⟨bt, bo, val, h⟩ := h
  have HR := hide (room_any S w p s bt bo val h ok.cap ok.big)
  have c6 := h.c6
  clear h ok
  cases hd : s.down with
  | false =>
    rw [hd] at c6
    go_enter Try.func24, Try.ntmps24
    go_wp2_with (go_at_call 47; refine HR.out.mono ?_; rintro e w1 ⟨rfl, n, rfl⟩)
    go_ret2
    exact ⟨rfl, n, rfl⟩
  | true =>
    rw [hd] at c6
    go_enter Try.func24, Try.ntmps24
    go_wp2
    go_ret2
    exact ⟨rfl, 0, rfl⟩

theorem Arm_any (S : Nat → Prop) (w : World) (p : Nat) (s : St) (n : Int) (h : DAt S w p s) :
    Calls Try.prog 25 #[.pointer (some ⟨p, 0, none⟩), .int .i64 n] w fun e w' => e = .returned (.int .i64 (s.arm n).1) ∧ DAt S w' p (s.arm n).2 ∧ Keep (fun k => k = p) w w' := by
  obtain ⟨bt, bo, val, h⟩ := h
  have H := hide h
  have c4 := h.c4
  have c5 := h.c5
  have c6 := h.c6
  have f4 := h.fz 4
  have f5 := h.fz 5
  cases hd : s.down with
  | true =>
    rw [hd] at c6
    have HD := hide hd
    clear h hd
    go_enter Try.func25, Try.ntmps25
    go_wp2
    go_ret
    have e1 : s.arm n = (56, s) := by unfold St.arm; rw [if_pos HD.out]
    exact ⟨by rw [e1]; rfl, by rw [e1]; exact ⟨_, _, _, H.out⟩, Keep.refl _ _⟩
  | false =>
    rw [hd] at c6
    have HD := hide hd
    clear h hd
    by_cases hn : n < 0
    · go_enter Try.func25, Try.ntmps25
      go_wp2
      go_ret
      have e1 : s.arm n = (1, s) := by unfold St.arm; rw [if_neg (by rw [HD.out]; decide), if_pos hn]
      exact ⟨by rw [e1]; rfl, by rw [e1]; exact ⟨_, _, _, H.out⟩, Keep.refl _ _⟩
    · go_enter Try.func25, Try.ntmps25
      go_wp2
      go_ret
      have e1 : s.arm n = (0, { s with left := some n.toNat }) := by unfold St.arm; rw [if_neg (by rw [HD.out]; decide), if_neg (by omega)]
      have hnn : ((n.toNat : Nat) : Int) = n := by omega
      refine ⟨by rw [e1]; rfl, ?_, (keep_cell w p 4 _).more (keep_cell _ p 5 _)⟩
      rw [e1]
      refine ⟨bt, bo, val, H.out.cells _ rfl rfl ((keep_cell w p 4 _).more (keep_cell _ p 5 _)) ?_⟩
      rw [set_blk (set_blk H.out.blk 4 _) 5 _]
      simp [dcells, hnn]

/-- a segment's bytes -/
def St.bytes (s : St) (k : Int) : List Nat := (s.there k).getD []

theorem zeroS (w : World) : (zeroValue 33).run Try.prog w = .ok (.slice none 0 0) w := by kernel_rfl
theorem zeroP (w : World) : (zeroValue 71).run Try.prog w = .ok (.agg #[.bool false, .int .i64 0, .slice none 0 0]) w := by kernel_rfl
theorem mapT : Try.prog.underlying 65 = some (.map 3 33) := by kernel_rfl
theorem mapO : Try.prog.underlying 66 = some (.map 3 71) := by kernel_rfl

/-- what find tells -/
def foundV (s : St) (val : Int → Value) (k : Int) : Value := if s.down then .slice none 0 0 else ((s.there k).map fun _ => val k).getD (.slice none 0 0)

theorem find_any (S : Nat → Prop) (w : World) (p : Nat) (s : St) (bt bo : Nat) (val : Int → Value) (k : Int) (h : DIn S w p s bt bo val) (h1 : -9223372036854775808 ≤ k) (h2 : k ≤ 9223372036854775807) :
    Calls Try.prog 49 #[.pointer (some ⟨p, 0, none⟩), .int .i64 k] w fun e w' => e = .returned (.tuple #[foundV s val k, .int .i64 (s.find k)]) ∧ w' = w := by
  have c2 := h.c2
  have c6 := h.c6
  have hl := (h.mt.look mapT zeroS h1 h2 0).1
  rw [show w.drewN 0 = w from rfl] at hl
  cases hd : s.down with
  | true =>
    rw [hd] at c6
    have HD := hide hd
    clear h hd
    go_enter Try.func49, Try.ntmps49
    go_wp2
    go_ret2
    refine ⟨?_, rfl⟩
    rw [foundV, St.find, if_pos HD.out, if_pos HD.out]
    rfl
  | false =>
    rw [hd] at c6
    have HD := hide hd
    cases ht : s.there k with
    | none =>
      have HT := hide ht
      rw [ht] at hl
      simp only [Option.map_none, Option.getD_none, Option.isSome_none] at hl
      clear h hd ht
      go_enter Try.func49, Try.ntmps49
      go_wp2
      go_ret2
      refine ⟨?_, rfl⟩
      rw [foundV, St.find, if_neg (by rw [HD.out]; decide), if_neg (by rw [HD.out]; decide), HT.out, if_pos rfl]
      rfl
    | some l =>
      have HT := hide ht
      rw [ht] at hl
      simp only [Option.map_some, Option.getD_some, Option.isSome_some] at hl
      clear h hd ht
      go_enter Try.func49, Try.ntmps49
      go_wp2
      go_ret2
      refine ⟨?_, rfl⟩
      rw [foundV, St.find, if_neg (by rw [HD.out]; decide), if_neg (by rw [HD.out]; decide), HT.out, if_neg (by simp)]
      rfl

end Go.Proofs.Ytilpidioengnbaa
