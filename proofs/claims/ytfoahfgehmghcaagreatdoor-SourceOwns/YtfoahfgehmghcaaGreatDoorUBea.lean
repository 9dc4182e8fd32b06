import Derived.Test.YtfoahfgehmghcaaGreatDoorULi2
import Derived.Test.YtfoahfgehmghcaaGreatDoorUCut
import Derived.Deep.OwnRows
import Derived.Deep.RegionLaw
import Derived.Test.YtfoahfgehmghcaaGreatDoorGEdg
import Derived.Maps.OwnSet
/- Package source: a line's words. -/
namespace Go.Proofs.YtfoahfgehmghcaaGreatDoor
namespace U
open Go.RowKit

theorem isBlank_any (n : Nat) (w : World) :
    Calls Tryz.prog 91 #[.int .i32 (n : Int)] w fun e w' => e = .returned (.bool (blR n)) ∧ w' = w := by
  unfold blR
  go_enter Tryz.func91, Tryz.ntmps91
  go_wp2
  all_goals go_ret
  all_goals refine ⟨congrArg (fun b => Ending.returned (.bool b)) ?_, rfl⟩
  all_goals (rw [Bool.eq_iff_iff]; simp only [Bool.or_eq_true, decide_eq_true_eq, beq_iff_eq, true_iff]; omega)
theorem enter_blank : ∀ args w, (callFunc 91 args).run Tryz.prog w = .ok (.enter 91 args) w := by intro args w; simp [go_sem]
theorem isBlank_pred (w : World) : PredAtRunes Tryz.prog 91 #[] blR w := fun W x hx hb => by
  refine (isBlank_any x W).mono ?_
  rintro e w' ⟨rfl, rfl⟩
  exact ⟨rfl, 0, rfl⟩
theorem strs_ba (xs : List ByteArray) : xs = (xs.map (·.data.toList)).map ba := by
  rw [List.map_map]
  conv => lhs; rw [← List.map_id xs]
  exact List.map_congr_left fun x _ => (ba_of x).symm

set_option maxHeartbeats 1000000 in
theorem lineOf_any (s : ByteArray) (hs : s.size ≤ 65536) (pl : Nat) (w : World) :
    Calls Tryz.prog 66 #[.string s, .int .i64 (pl : Int)] w fun e w' => ∃ L, e = .returned (.pointer (some ⟨L, 0, none⟩)) ∧ w.heap.size ≤ L ∧ LineAt w' L pl (wordsOf s.data.toList, false) ∧ Below w.heap.size w w' := by
  have hlen : s.data.toList.length = s.size := by simp
  have ha := ahead_le 35 s.data.toList
  have HC := hide (fun w => cut_any s hs 35 w)
  have hF := hide (fun w => Tryz.strings_FieldsFunc_runes 91 #[] enter_blank blR (ba (ahead 35 s.data.toList)) w (by rw [ba_size]; omega) (isBlank_pred w))
  have HW := hide (fields_words (ba (ahead 35 s.data.toList)))
  rw [ba_data] at HW
  have HO : Hid (wordsOf s.data.toList = words (ahead 35 s.data.toList)) := rfl
  have HNE := hide (wordsOf_ne s.data.toList)
  have HLE := hide (wordsOf_len s.data.toList)
  generalize wordsOf s.data.toList = ws at *
  generalize Lib.goFieldsP blR (ba (ahead 35 s.data.toList)) = fs at *
  generalize words (ahead 35 s.data.toList) = ww at *
  obtain rfl := HO.out
  generalize ba (ahead 35 s.data.toList) = y at *
  go_enter Tryz.func66, Tryz.ntmps66
  go_wp2_with fail
  go_at_call 89
  refine (HC.out _).mono ?_
  rintro e w1 ⟨⟨y2, b2, rfl⟩, n1, rfl⟩
  have hbd : Below w.heap.size w (w.drewN n1) := ⟨rfl, rfl, rfl, Nat.le_refl _, fun _ _ => rfl⟩
  have hzd : (w.drewN n1).heap.size = w.heap.size := rfl
  have F1 := hide (hF.out (w.drewN n1))
  have HB1 := hide hbd
  have HZ1 := hide hzd
  generalize w.drewN n1 = w1 at *
  clear hbd hzd HC hF
  go_wp2_with fail
  go_at_call 90
  refine F1.out.mono ?_
  rintro e w2 ⟨A, rfl, hA, own, hb⟩
  have HO2 := hide own
  have HB2 := hide hb
  have HA := hide hA
  clear own hb hA F1
  go_wp2_with fail
  go_ret
  have hbl := heap_alloc_new w2 (.cells #[.int .i64 (pl : Int), .slice (some ⟨A, 0, none⟩) fs.length fs.length, .bool false] 128)
  have hbel : Below w2.heap.size w2 (w2.alloc (.cells #[.int .i64 (pl : Int), .slice (some ⟨A, 0, none⟩) fs.length fs.length, .bool false] 128)) := (Below.refl _ w2).alloc (Nat.le_refl _) _
  have hfl : fs.length = ws.length := by rw [← HW.out]; simp
  have hz1 := HZ1.out
  have hz2 := HB2.out.size
  refine ⟨w2.heap.size, rfl, by omega, ⟨some ⟨A, 0, none⟩, fs.length, ?_, by simp [hfl], by have := HLE.out; omega, .inr ⟨A, 0, rfl, ?_, fun j x hx => ?_⟩, HNE.out⟩, ?_⟩
  · rw [← hfl]; exact hbl
  · rcases HO2.out.2 with ⟨e, _⟩ | ⟨g, cap, cur, e, _, e3, _⟩
    · cases e
    · injection e with e
      injection e with e
      injection e with e
      subst e
      exact ⟨cur, (hbel.block A (Array.getElem?_eq_some_iff.1 e3).1).trans e3⟩
  · rw [Nat.zero_add]
    refine (hbel.cell (p := ⟨A, j, none⟩) ?_).trans ?_
    · have := (HO2.out.lt A rfl).2; exact this
    · have hj : j < ws.length := (List.getElem?_eq_some_iff.1 hx).1
      rw [World.ownsRow.cellAt HO2.out j (by omega)]
      simp only at hx
      have : fs[j]? = some (ba x) := by
        have h1 := strs_ba fs
        rw [HW.out] at h1
        rw [h1, List.getElem?_map, hx]; rfl
      simp [this]
  · exact HB1.out.trans ((HB2.out.trans (hbel.mono HB2.out.size)).mono (by omega))
end U
end Go.Proofs.YtfoahfgehmghcaaGreatDoor

/- Package source: rows of the call's own; a draft in memory. -/
namespace Go.Proofs.YtfoahfgehmghcaaGreatDoor
namespace U
open Go.RowKit

theorem own_stay {w w' : World} {b : Nat} {e : TypeId} {s : Nat} {v : Value} {n : Nat} {xs : List Value} (h : w.ownsRow b e s v n xs) (hb : ∀ g, v.ownBlock = some g → w'.heap[g]? = w.heap[g]?) : w'.ownsRow b e s v n xs := by
  refine ⟨h.1, ?_⟩
  rcases h.2 with h | ⟨g, cap, cur, rfl, e2, e3, e4⟩
  · exact .inl h
  · exact .inr ⟨g, cap, cur, rfl, e2, (hb g rfl).trans e3, e4⟩
theorem own_blk {w : World} {b : Nat} {e : TypeId} {s : Nat} {v : Value} {n : Nat} {xs : List Value} (h : w.ownsRow b e s v n xs) {g : Nat} (hg : v.ownBlock = some g) : b ≤ g ∧ g < w.heap.size ∧ ∃ cur, w.heap[g]? = some (.cells cur e (0, 0)) := by
  rcases h.2 with ⟨rfl, _⟩ | ⟨g', cap, cur, rfl, e2, e3, e4⟩
  · cases hg
  · cases hg
    exact ⟨e2, (Array.getElem?_eq_some_iff.1 e3).1, cur, e3⟩
theorem own_far {w : World} {b : Nat} {e t : TypeId} {s : Nat} {v : Value} {n : Nat} {xs : List Value} (h : w.ownsRow b e s v n xs) {O : Nat} {cs : Array Value} (hO : w.heap[O]? = some (.cells cs t (0, 0))) (ht : t ≠ e) : v.ownBlock ≠ some O := fun hg => by
  obtain ⟨_, _, cur, h3⟩ := own_blk h hg
  rw [hO] at h3
  injection h3 with h3
  injection h3 with _ h3
  exact ht h3
theorem own_below {w w' : World} {b : Nat} {e : TypeId} {s : Nat} {v : Value} {n : Nat} {xs : List Value} (h : w.ownsRow b e s v n xs) (hb : Below w.heap.size w w') : w'.ownsRow b e s v n xs :=
  own_stay h fun g hg => hb.block g (own_blk h hg).2.1
theorem own_shape {w : World} {b : Nat} {e : TypeId} {s : Nat} {v : Value} {n : Nat} {xs : List Value} (h : w.ownsRow b e s v n xs) : ∃ a c, v = .slice a n c := by
  rcases h.2 with ⟨rfl, rfl⟩ | ⟨g, cap, cur, rfl, _⟩ <;> exact ⟨_, _, rfl⟩

/-- 'append' as one step of a region that draws -/
theorem step_append_run {ops : Array Oper} {o : Oper} {a : Act} {w : World} {K : Act → World → Prop} {Q : Exit → Act → World → Prop} {E : Prop}
    (hg : o.guard = none) (d x : Operand) (t : TypeId) (hop : o.op = Op.call { callee := Callee.builtin Builtin.append, args := #[d, x], argTypes := #[t, t] })
    (v u : Value) (hd : a.eval d = v) (hx : a.eval x = u) {v' : Value} {w' : World} (hr : (Builtin.append_ #[t, t] o.type #[v, u]).run Tryz.prog w = .ok v' w') (hK : K (a.put o.dst v') w') :
    if Region.wanted o (yielded ops a.tmps) = true then Oper.wp Tryz.prog o a w K Q else E := by
  have hw : Region.wanted o (yielded ops a.tmps) = true := by simp [Region.wanted, hg]
  rw [if_pos hw]
  unfold Oper.wp
  simp [execOp, hop, resolve, invoke, builtin, hd, hx, hr, Result.andThen]
  exact hK

theorem own_keep {w w' : World} {b : Nat} {e : TypeId} {s : Nat} {v : Value} {n : Nat} {xs : List Value} (h : w.ownsRow b e s v n xs) {S : Nat → Prop} (k : Keep S w w') (hS : ∀ g, v.ownBlock = some g → ¬ S g) : w'.ownsRow b e s v n xs :=
  own_stay h fun g hg => k.block g (own_blk h hg).2.1 (hS g hg)
/-- two rows of unlike types lie apart -/
theorem own_apart {w : World} {b b' : Nat} {e e' : TypeId} {s s' : Nat} {v v' : Value} {n n' : Nat} {xs xs' : List Value} (h : w.ownsRow b e s v n xs) (h' : w.ownsRow b' e' s' v' n' xs') (he : e ≠ e') {g : Nat} (hg : v.ownBlock = some g) : v'.ownBlock ≠ some g := fun hg' => by
  obtain ⟨_, _, cur, h3⟩ := own_blk h hg
  exact own_far h' h3 he hg'
theorem own_noStr {w : World} {b : Nat} {e : TypeId} {s : Nat} {v : Value} {n : Nat} {xs : List Value} (h : w.ownsRow b e s v n xs) (he : e ≠ 9) {g : Nat} (hg : v.ownBlock = some g) : ¬ StrB w g := by
  obtain ⟨_, _, cur, h3⟩ := own_blk h hg
  exact not_strB h3 he

def flat (qs : List Gr.Nd) : List Value := (qs.map Gr.Nd.row).flatten
theorem flat_snoc (qs : List Gr.Nd) (q : Gr.Nd) : flat (qs ++ [q]) = flat qs ++ q.row := by simp [flat]
theorem flat_length (qs : List Gr.Nd) : (flat qs).length = qs.length * 10 := by
  induction qs with
  | nil => rfl
  | cons q qs ih => simp only [flat, List.map_cons, List.flatten_cons, List.length_append] at ih ⊢; rw [ih]; simp [Gr.Nd.row]; omega
theorem flat_get (qs : List Gr.Nd) (i j : Nat) (q : Gr.Nd) (u : Value) (hq : qs[i]? = some q) (hu : q.row[j]? = some u) : (flat qs)[i * 10 + j]? = some u := by
  induction qs generalizing i with
  | nil => simp at hq
  | cons p qs ih =>
    have hl : ∀ q : Gr.Nd, q.row.length = 10 := fun q => rfl
    have e : flat (p :: qs) = p.row ++ flat qs := by simp [flat]
    have hj : j < 10 := by rw [← hl q]; exact (List.getElem?_eq_some_iff.1 hu).1
    rw [e]
    cases i with
    | zero =>
      simp only [List.getElem?_cons_zero, Option.some.injEq] at hq
      subst hq
      rw [Nat.zero_mul, Nat.zero_add, List.getElem?_append_left (by rw [hl]; omega)]
      exact hu
    | succ i =>
      simp only [List.getElem?_cons_succ] at hq
      rw [List.getElem?_append_right (by rw [hl]; omega), hl, show (i + 1) * 10 + j - 10 = i * 10 + j by omega]
      exact ih i hq
theorem info_node : (Tryz.prog.info? 32).map (fun i => (i.zero, i.size, i.bytes)) = some (some (.agg #[.string ⟨#[]⟩, .int .i64 0, .int .i64 0, .int .i64 0, .int .i64 0, .int .i64 0, .int .i64 0, .int .i64 0, .slice none 0 0, .slice none 0 0]), 10, 120) := by kernel_rfl
/-- a node more behind a row of the call's own -/
theorem append_node {w : World} {b : Nat} {v : Value} {qs : List Gr.Nd} (h : w.ownsRow b 32 10 v qs.length (flat qs)) (hb : b ≤ w.heap.size) (hl : qs.length < 1000000) (q : Gr.Nd) {B : Nat} (hB : ∀ j u, q.row[j]? = some u → w.cell? ((⟨B, 0, none⟩ : Addr).add j) = some u) (c : Nat) (ty : TypeId) :
    ∃ v' w', (Builtin.append_ #[22, 22] ty #[v, .slice (some ⟨B, 0, none⟩) 1 c]).run Tryz.prog w = .ok v' w' ∧ w'.ownsRow b 32 10 v' (qs.length + 1) (flat (qs ++ [q])) ∧ w.grownBy w' v.ownBlock := by
  have hi := info_node
  rcases hi0 : Tryz.prog.info? 32 with _ | i
  · rw [hi0] at hi; cases hi
  · rw [hi0] at hi
    simp only [Option.map_some, Option.some.injEq, Prod.mk.injEq] at hi
    obtain ⟨hz, hs, hby⟩ := hi
    obtain ⟨v', w', h1, h2, h3, _⟩ := run_append_own (P := Tryz.prog) w b 22 ty 32 i _ 10 120 Tryz.underlying22 hi0 hz hs hby rfl (by decide) v qs.length _ h ⟨B, 0, none⟩ 1 c q.row rfl hB (fun u hu => by simp [Gr.Nd.row] at hu; rcases hu with rfl | rfl | rfl | rfl | rfl | rfl | rfl | rfl | rfl | rfl <;> rfl) (by unfold maxLen; omega) (by omega) hb
    exact ⟨v', w', h1, by rw [flat_snoc]; exact h2, h3⟩
theorem info_int : (Tryz.prog.info? 3).map (fun i => (i.zero, i.size, i.bytes)) = some (some (.int .i64 0), 1, 8) := by kernel_rfl
def ivs (z : List Nat) : List Value := z.map fun (n : Nat) => .int .i64 (n : Int)
/-- a number more behind a row of the call's own -/
theorem append_num {w : World} {b : Nat} {v : Value} {z : List Nat} (h : w.ownsRow b 3 1 v z.length (ivs z)) (hb : b ≤ w.heap.size) (hl : z.length < 1000000) (n : Nat) {B : Nat} (hB : w.cell? ⟨B, 0, none⟩ = some (.int .i64 (n : Int))) (c : Nat) (ty : TypeId) :
    ∃ v' w', (Builtin.append_ #[30, 30] ty #[v, .slice (some ⟨B, 0, none⟩) 1 c]).run Tryz.prog w = .ok v' w' ∧ w'.ownsRow b 3 1 v' (z.length + 1) (ivs (z ++ [n])) ∧ w.grownBy w' v.ownBlock := by
  have hi := info_int
  rcases hi0 : Tryz.prog.info? 3 with _ | i
  · rw [hi0] at hi; cases hi
  · rw [hi0] at hi
    simp only [Option.map_some, Option.some.injEq, Prod.mk.injEq] at hi
    obtain ⟨hz, hs, hby⟩ := hi
    obtain ⟨v', w', h1, h2, h3, _⟩ := run_append_own (P := Tryz.prog) w b 30 ty 3 i _ 1 8 Tryz.underlying30 hi0 hz hs hby rfl (by decide) v z.length _ h ⟨B, 0, none⟩ 1 c [.int .i64 (n : Int)] rfl (fun j u hj => by
      match j, hj with
      | 0, hj => simp at hj; subst hj; simpa [Addr.add] using hB
      | j + 1, hj => simp at hj) (fun u hu => by simp at hu; subst hu; rfl) (by unfold maxLen; omega) (by omega) hb
    exact ⟨v', w', h1, by rw [show ivs (z ++ [n]) = ivs z ++ [.int .i64 (n : Int)] by simp [ivs]]; exact h2, h3⟩
/-- a mention, and where its names lie -/
def mrow (x : Mn × Option Addr × Nat) : List Value := [.int .i64 (x.1.place : Int), .int .i64 (x.1.node : Int), .int .i64 (x.1.kind : Int), .slice x.2.1 x.1.names.length x.2.2]
def mflat (l : List (Mn × Option Addr × Nat)) : List Value := (l.map mrow).flatten
theorem mflat_snoc (l : List (Mn × Option Addr × Nat)) (x : Mn × Option Addr × Nat) : mflat (l ++ [x]) = mflat l ++ mrow x := by simp [mflat]
theorem info_men : (Tryz.prog.info? 131).map (fun i => (i.zero, i.size, i.bytes)) = some (some (.agg #[.int .i64 0, .int .i64 0, .int .i64 0, .slice none 0 0]), 4, 48) := by kernel_rfl
/-- a mention more behind a row of the call's own -/
theorem append_men {w : World} {b : Nat} {v : Value} {l : List (Mn × Option Addr × Nat)} (h : w.ownsRow b 131 4 v l.length (mflat l)) (hb : b ≤ w.heap.size) (hl : l.length < 1000000) (x : Mn × Option Addr × Nat) {B : Nat} (hB : ∀ j u, (mrow x)[j]? = some u → w.cell? ((⟨B, 0, none⟩ : Addr).add j) = some u) (c : Nat) (ty : TypeId) :
    ∃ v' w', (Builtin.append_ #[85, 85] ty #[v, .slice (some ⟨B, 0, none⟩) 1 c]).run Tryz.prog w = .ok v' w' ∧ w'.ownsRow b 131 4 v' (l.length + 1) (mflat (l ++ [x])) ∧ w.grownBy w' v.ownBlock := by
  have hi := info_men
  rcases hi0 : Tryz.prog.info? 131 with _ | i
  · rw [hi0] at hi; cases hi
  · rw [hi0] at hi
    simp only [Option.map_some, Option.some.injEq, Prod.mk.injEq] at hi
    obtain ⟨hz, hs, hby⟩ := hi
    obtain ⟨v', w', h1, h2, h3, _⟩ := run_append_own (P := Tryz.prog) w b 85 ty 131 i _ 4 48 Tryz.underlying85 hi0 hz hs hby rfl (by decide) v l.length _ h ⟨B, 0, none⟩ 1 c (mrow x) rfl hB (fun u hu => by simp [mrow] at hu; rcases hu with rfl | rfl | rfl | rfl <;> rfl) (by unfold maxLen; omega) (by omega) hb
    exact ⟨v', w', h1, by rw [mflat_snoc]; exact h2, h3⟩

/-- mentions in memory -/
def MsAt (B : Nat) (w : World) (vm : Value) (ms : List Mn) : Prop :=
  ∃ l : List (Mn × Option Addr × Nat), l.map (·.1) = ms ∧ w.ownsRow B 131 4 vm l.length (mflat l) ∧ ∀ x ∈ l, RdS w x.2.1 x.1.names ∧ x.1.names.length ≤ x.2.2
/-- a draft's block -/
def drow (d : Dr) (vn vp vm : Value) : List Value := [.string (ba d.nm), .int .i64 d.dl, vn, .int .i64 (d.place : Int), vp, .bool d.hn, .bool d.ha, vm]
/-- a draft in memory, all of it in blocks from B on, its lists by name -/
def DrX (B : Nat) (w : World) (D : Nat) (d : Dr) (vn vp vm : Value) : Prop :=
  B ≤ D ∧ w.heap[D]? = some (.cells (drow d vn vp vm).toArray 87 (0, 0)) ∧ w.ownsRow B 32 10 vn d.nds.length (flat (d.nds.map fun x => (no x).q)) ∧ w.ownsRow B 3 1 vp d.places.length (ivs d.places) ∧ MsAt B w vm d.ms
/-- a draft in memory -/
def DrAt (B : Nat) (w : World) (D : Nat) (d : Dr) : Prop := ∃ vn vp vm, DrX B w D d vn vp vm
theorem MsAt.keep {B : Nat} {w w' : World} {vm : Value} {ms : List Mn} (h : MsAt B w vm ms) {S : Nat → Prop} (k : Keep S w w') (h1 : ∀ g, vm.ownBlock = some g → ¬ S g) (hS : ∀ g, S g → ¬ StrB w g) : MsAt B w' vm ms := by
  obtain ⟨l, e, ho, hr⟩ := h
  exact ⟨l, e, own_keep ho k h1, fun x hx => ⟨(hr x hx).1.keep k hS, (hr x hx).2⟩⟩
theorem DrAt.below {B : Nat} {w w' : World} {D : Nat} {d : Dr} (h : DrAt B w D d) (k : Below w.heap.size w w') : DrAt B w' D d := by
  obtain ⟨vn, vp, vm, h0, h1, h2, h3, h4⟩ := h
  refine ⟨vn, vp, vm, h0, (k.block D (Array.getElem?_eq_some_iff.1 h1).1).trans h1, own_below h2 k, own_below h3 k, h4.keep (Keep.ofBelow (S := fun _ => False) k (Nat.le_refl _)) (fun _ _ f => f) (fun _ f => f.elim)⟩
/-- what lies in neither a draft nor its rows may turn -/
theorem DrX.line {B : Nat} {w w' : World} {D : Nat} {d : Dr} {vn vp vm : Value} (h : DrX B w D d vn vp vm) {L : Nat} {cs : Array Value} (hL : w.heap[L]? = some (.cells cs 128 (0, 0))) (k : Keep (fun i => i = L) w w') : DrX B w' D d vn vp vm := by
  obtain ⟨h0, h1, h2, h3, h4⟩ := h
  have hDL : D ≠ L := fun e => by
    subst e
    rw [h1] at hL
    injection hL with hL
    injection hL with _ hL
    exact absurd hL (by decide)
  refine ⟨h0, k.blk h1 hDL, own_keep h2 k fun g hg e => ?_, own_keep h3 k fun g hg e => ?_, h4.keep k (fun g hg e => ?_) (fun g e => ?_)⟩
  · subst e; exact own_far h2 hL (by decide) hg
  · subst e; exact own_far h3 hL (by decide) hg
  · subst e
    obtain ⟨l, _, ho, _⟩ := h4
    exact own_far ho hL (by decide) hg
  · subst e; exact not_strB hL (by decide)
theorem DrAt.line {B : Nat} {w w' : World} {D : Nat} {d : Dr} (h : DrAt B w D d) {L : Nat} {cs : Array Value} (hL : w.heap[L]? = some (.cells cs 128 (0, 0))) (k : Keep (fun i => i = L) w w') : DrAt B w' D d := by
  obtain ⟨vn, vp, vm, h⟩ := h
  exact ⟨vn, vp, vm, h.line hL k⟩
theorem LineAt.blk {w : World} {L pl : Nat} {s : Ln} (h : LineAt w L pl s) : ∃ cs, w.heap[L]? = some (.cells cs 128 (0, 0)) := by
  obtain ⟨a, c, hb, _⟩ := h
  exact ⟨_, hb⟩
theorem DrAt.lineAt {B : Nat} {w w' : World} {D : Nat} {d : Dr} (h : DrAt B w D d) {L pl : Nat} {s : Ln} (hL : LineAt w L pl s) (k : Keep (fun i => i = L) w w') : DrAt B w' D d := by
  obtain ⟨cs, hc⟩ := hL.blk
  exact h.line hc k
end U
end Go.Proofs.YtfoahfgehmghcaaGreatDoor

/- Package source: who bears a name first. -/
namespace Go.Proofs.YtfoahfgehmghcaaGreatDoor
namespace U
open Go.RowKit Go.Maps Go.MapKept Go.ChangeMaps

/-- 'v, ok := m[k]' -/
theorem look2 {w : World} {b N : Nat} {f : ByteArray → Option Nat} (h : Gr.MapS w b N f) {t e : TypeId} (ht : Tryz.prog.underlying t = some (.map 9 e)) {z : Value} (hz : ∀ w, (zeroValue e).run Tryz.prog w = .ok z w) {k : ByteArray} (hk : k.size ≤ maxLen) :
    (Instr.lookup t (.map (some b)) (.string k) true).run Tryz.prog w = .ok (.tuple #[((f k).map Gr.nv).getD z, .bool (f k).isSome]) w := by
  obtain ⟨D, hD, _, ha⟩ := h
  obtain ⟨v, ps, hr, hv⟩ := hD.look_ok Gr.keyed ht (hz _) (zd := .held z) (zp := []) rfl (Gr.key hk)
  have e1 := Gr.rawE_inv hv
  cases hf : f k with
  | none =>
    have h0 := (ha k hk).1 hf
    rw [atKey_of_not_has h0] at e1
    have e2 := DataW.held.inj e1
    subst e2
    rw [h0] at hr
    simp only [Option.map_none, Option.getD_none, Option.isSome_none]
    exact hr
  | some u =>
    obtain ⟨h3, h4⟩ := (ha k hk).2 u hf
    rw [h4] at e1
    have e2 := DataW.held.inj e1
    subst e2
    rw [h3] at hr
    simp only [Option.map_some, Option.getD_some, Option.isSome_some]
    exact hr
theorem zero_int : ∀ w, (zeroValue 3).run Tryz.prog w = .ok (.int .i64 0) w := by intro w; simp [go_sem]

/-- the first that bears a name -/
def idxB (xs : List Gr.No) (k : ByteArray) : Option Nat := xs.findIdx? fun x => decide (x.q.nm = k)
theorem idxB_snoc (xs : List Gr.No) (x : Gr.No) (k : ByteArray) : idxB (xs ++ [x]) k = match idxB xs k with | some j => some j | none => if x.q.nm = k then some xs.length else none := by
  unfold idxB
  rw [List.findIdx?_append]
  cases List.findIdx? (fun x => decide (x.q.nm = k)) xs with
  | some j => rfl
  | none =>
    by_cases h : x.q.nm = k
    · simp [List.findIdx?_cons, h]
    · simp [List.findIdx?_cons, h]
theorem idxB_upd {xs : List Gr.No} {x : Gr.No} (h : idxB xs x.q.nm = none) : idxB (xs ++ [x]) = Gr.updS (idxB xs) x.q.nm (some xs.length) := by
  funext k
  rw [idxB_snoc]
  unfold Gr.updS
  by_cases e : k = x.q.nm
  · subst e; rw [h]
  · rw [if_neg e]
    cases idxB xs k with
    | some j => rfl
    | none => simp only; rw [if_neg (fun h => e h.symm)]
theorem idxB_same {xs : List Gr.No} {x : Gr.No} {j : Nat} (h : idxB xs x.q.nm = some j) : idxB (xs ++ [x]) = idxB xs := by
  funext k
  rw [idxB_snoc]
  cases hk : idxB xs k with
  | some j => rfl
  | none =>
    simp only
    rw [if_neg]
    intro e
    rw [e, hk] at h
    cases h

set_option maxRecDepth 100000 in
set_option maxHeartbeats 2000000 in
theorem bearers_any (s : Option Addr × Nat × Nat) (xs : List Gr.No) (B : Nat) (w : World) (hP : Gr.RdP B w s xs) (hn : s.2.1 ≤ 1000000) (hz : ∀ x ∈ xs, x.q.nm.size ≤ maxLen) :
    Calls Tryz.prog 68 #[.slice s.1 s.2.1 s.2.2] w fun e w' => ∃ b, e = .returned (.map (some b)) ∧ Gr.MapS w' b s.2.1 (idxB xs) ∧ Below w.heap.size w w' ∧ w.heap.size ≤ b := by
  obtain ⟨a, n, c⟩ := s
  simp only at *
  have HN : Hid (n = xs.length) := hP.1
  have HP := hide hP
  have HZ := hide hz
  clear hP hz
  have mk := fun W => Gr.run_makeMap_hint Tryz.underlying108 (n : Int) W
  go_enter Tryz.func68, Tryz.ntmps68
  go_wp2_with fail
  go_loopw [13] (fun iv wr => ∃ i : Nat, iv = .int .i64 (i : Nat) ∧ i ≤ n ∧ Hid (Gr.MapS wr w.heap.size i (idxB (xs.take i)) ∧ Below w.heap.size w wr)) (fun iv _ => n - (intOf iv).toNat)
  case atStart => exact ⟨0, rfl, Nat.zero_le _, Gr.mapS_made w, (Below.refl _ w).alloc (Nat.le_refl _) _⟩
  case round =>
    clear mk
    obtain ⟨i, rfl, hi, HI⟩ := hrel
    by_cases hlt : i < n
    · obtain ⟨g, off, x, hg0, hg, hx, hN, _, _⟩ := (HP.out.keep (S := fun k => w.heap.size ≤ k ∧ False) ⟨HI.out.2.os, HI.out.2.tape, HI.out.2.output, HI.out.2.size, fun k hk _ => HI.out.2.block k hk⟩ (fun i h => h.2.elim)).at hlt
      simp only at hg0
      subst hg0
      obtain ⟨n0, n1, n2, n3, n4, n5, n6, n7, n8, n9⟩ := hN.all
      have hsz := HZ.out x (List.mem_of_getElem? hx)
      have htk := Gr.take_snoc xs i x hx
      have hll : (xs.take i).length = i := by have := HN.out; simp; omega
      have M1 : Hid (Gr.MapS (wr.alloc (.cells x.q.row.toArray 32)) w.heap.size i (idxB (xs.take i))) := HI.out.1.of_blk (Below.heap_alloc _ _ _ HI.out.1.lt)
      have lk := look2 M1.out Tryz.underlying108 zero_int (k := x.q.nm) hsz
      have B1 := hide (HI.out.2.alloc HI.out.2.size (.cells x.q.row.toArray 32))
      have HU := hide (fun h => idxB_upd (xs := xs.take i) (x := x) h)
      have HSm := hide (fun j h => idxB_same (xs := xs.take i) (x := x) (j := j) h)
      rw [← htk, hll] at HU
      rw [← htk] at HSm
      generalize hf2 : idxB (xs.take (i + 1)) = f2 at *
      have HF2 := hide hf2
      clear hf2
      generalize idxB (xs.take i) = f1 at *
      obtain ⟨⟨nm, la, bu, cl, be, ba, ca, ji, ⟨ne1, ne2, ne3⟩, ⟨af1, af2, af3⟩⟩, nl, al⟩ := x
      simp only [Gr.Nd.row] at *
      have HX := hide hx
      have nn0 := cell_blk (heap_alloc_new wr (.cells #[.string nm, .int .i64 la, .int .i64 bu, .int .i64 cl, .int .i64 be, .int .i64 ba, .int .i64 ca, .int .i64 ji, .slice ne1 ne2 ne3, .slice af1 af2 af3] 32)) 0 (v := .string nm) rfl
      clear hx htk hN HP
      cases hf : f1 nm with
      | some j =>
        have e := HSm.out j hf
        subst e
        rw [hf] at lk
        simp only [Option.map_some, Option.getD_some, Option.isSome_some] at lk
        have HF := hide hf
        clear hf HU HSm
        go_wp2_with fail
        go_roundw
        · refine ⟨i + 1, by go_num, by omega, ?_, B1.out⟩
          obtain ⟨D, h1, h2, h3⟩ := M1.out
          rw [HF2.out]
          exact ⟨D, h1, by omega, h3⟩
        · show n - ((i : Int) + 1).toNat < n - (i : Int).toNat
          omega
      | none =>
        have e := HU.out hf
        subst e
        rw [hf] at lk
        simp only [Option.map_none, Option.getD_none, Option.isSome_none] at lk
        obtain ⟨w5, hst, m5, k5, s5⟩ := M1.out.store Tryz.underlying108 (k := nm) hsz (by omega) i
        have M5 := hide m5
        have K5 := hide k5
        unfold Gr.nv at hst
        clear hf HU HSm m5 k5 s5
        go_wp2_with fail
        go_roundw
        · exact ⟨i + 1, by go_num, by omega, by rw [HF2.out]; exact M5.out, B1.out.trans (K5.out.below (B := w.heap.size) B1.out.size (fun i e => by omega))⟩
        · show n - ((i : Int) + 1).toNat < n - (i : Int).toNat
          omega
    · go_wp2_with fail
      go_ret
      refine ⟨w.heap.size, rfl, ?_, HI.out.2, Nat.le_refl _⟩
      have h := HI.out.1
      rw [List.take_of_length_le (by have := HN.out; omega)] at h
      obtain ⟨D, h1, h2, h3⟩ := h
      exact ⟨D, h1, by omega, h3⟩
end U
end Go.Proofs.YtfoahfgehmghcaaGreatDoor
