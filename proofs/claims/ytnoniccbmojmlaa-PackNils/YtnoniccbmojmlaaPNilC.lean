/- Package pack: nil writers and readers, forms that are not whole. -/
import Derived.Test.YtnoniccbmojmlaaPKnown
import Derived.Test.YtnoniccbmojmlaaPNum
namespace Go.Proofs.Ytnoniccbmojmlaa
open Go.RowKit

theorem PutNilI (fn1 fn2 : FuncId) (cap1 cap2 : Array Value) (x : Value) (w : World) :
    Calls Try.prog 17 #[.agg #[.func (.func fn1) #[] cap1, .func (.func fn2) #[] cap2], .pointer none, x] w fun en w' => en = .returned (.tuple #[]) ∧ Below w.heap.size w w' := by
  go_enter Try.func17, Try.ntmps17
  go_wp2
  first | go_end0 | refine bodyPost_ret (results_none rfl _ _ _) rfl ?_
  exact ⟨rfl, (Below.refl _ _).alloc (Nat.le_refl _) _⟩

theorem TakeNilI (fn1 fn2 : FuncId) (cap1 cap2 : Array Value) (w : World) :
    Calls Try.prog 21 #[.agg #[.func (.func fn1) #[] cap1, .func (.func fn2) #[] cap2], .pointer none] w fun en w' => en = .returned (.int .i64 0) ∧ Below w.heap.size w w' := by
  go_enter Try.func21, Try.ntmps21
  go_wp2
  go_ret
  exact ⟨rfl, (Below.refl _ _).alloc (Nat.le_refl _) _⟩

theorem PutNilLs (fn1 fn2 : FuncId) (cap1 cap2 : Array Value) (x : Value) (w : World) :
    Calls Try.prog 20 #[.agg #[.func (.func fn1) #[] cap1, .func (.func fn2) #[] cap2], .pointer none, x] w fun en w' => en = .returned (.tuple #[]) ∧ Below w.heap.size w w' := by
  go_enter Try.func20, Try.ntmps20
  go_wp2
  first | go_end0 | refine bodyPost_ret (results_none rfl _ _ _) rfl ?_
  exact ⟨rfl, (Below.refl _ _).alloc (Nat.le_refl _) _⟩

theorem TakeNilLs (fn1 fn2 : FuncId) (cap1 cap2 : Array Value) (w : World) :
    Calls Try.prog 22 #[.agg #[.func (.func fn1) #[] cap1, .func (.func fn2) #[] cap2], .pointer none] w fun en w' => en = .returned (.slice none 0 0) ∧ Below w.heap.size w w' := by
  go_enter Try.func22, Try.ntmps22
  go_wp2
  go_ret
  exact ⟨rfl, (Below.refl _ _).alloc (Nat.le_refl _) _⟩


/-- a form that lacks a function -/
def Unwhole (u v : Value) : Prop := (u = .nilFunc ∧ v = .nilFunc) ∨ (∃ (fn : FuncId) (cap : Array Value), u = .nilFunc ∧ v = .func (.func fn) #[] cap) ∨ (∃ (fn : FuncId) (cap : Array Value), u = .func (.func fn) #[] cap ∧ v = .nilFunc)
theorem Unwhole.both : Unwhole .nilFunc .nilFunc := .inl ⟨rfl, rfl⟩
theorem Unwhole.take (fn : FuncId) (cap : Array Value) : Unwhole .nilFunc (.func (.func fn) #[] cap) := .inr (.inl ⟨fn, cap, rfl, rfl⟩)
theorem Unwhole.put (fn : FuncId) (cap : Array Value) : Unwhole (.func (.func fn) #[] cap) .nilFunc := .inr (.inr ⟨fn, cap, rfl, rfl⟩)

theorem equalIn_nils (d : Nat) (t : TypeId) (w : World) (ps rs : Array TypeId) (v : Bool) (h : Try.prog.underlying t = some (.func ps rs v)) :
    (Op.equalIn (d + 1) t .nilFunc .nilFunc).run Try.prog w = .ok true w := by
  simp [Op.equalIn, run_underlying h]

theorem neq_nils (t : TypeId) (w : World) (ps rs : Array TypeId) (v : Bool) (h : Try.prog.underlying t = some (.func ps rs v)) :
    (binOp .neq t .nilFunc .nilFunc).run Try.prog w = .ok (.bool false) w := by
  simp only [binOp]
  simp [Op.equal, Op.maxDepth, equalIn_nils 9999 t w ps rs v h]

theorem whole_not (u v : Value) (hu : Unwhole u v) (w : World) :
    Calls Try.prog 52 #[.agg #[u, v]] w fun en w' => en = .returned (.bool false) ∧ Below w.heap.size w w' := by
  have h1 := fun w fn cap => neq_func 26 w fn #[] cap _ _ _ Try.underlying26
  have h2 := fun w fn cap => neq_func 27 w fn #[] cap _ _ _ Try.underlying27
  have h3 := fun w => neq_nils 26 w _ _ _ Try.underlying26
  have h4 := fun w => neq_nils 27 w _ _ _ Try.underlying27
  rcases hu with ⟨rfl, rfl⟩ | ⟨fn, cap, rfl, rfl⟩ | ⟨fn, cap, rfl, rfl⟩
  all_goals
    go_enter Try.func52, Try.ntmps52
    go_wp2
    go_ret
    exact ⟨rfl, (Below.refl _ _).alloc (Nat.le_refl _) _⟩

theorem MakeNot (u v : Value) (hu : Unwhole u v) (w : World) :
    Calls Try.prog 23 #[u, v] w fun en w' => en = .returned (.agg #[u, v]) ∧ Below w.heap.size w w' := by
  rcases hu with ⟨rfl, rfl⟩ | ⟨fn, cap, rfl, rfl⟩ | ⟨fn, cap, rfl, rfl⟩
  all_goals
    go_enter Try.func23, Try.ntmps23
    go_wp2
    simp [bodyPost, results, Try.results23, go_sem]
    exact (Below.refl _ _).alloc (Nat.le_refl _) _

theorem PutNot (S : Nat → Prop) (w0 : World) (p : Nat) (u v x : Value) (hu : Unwhole u v) (s : K.WS) (w : World) (h : WAt S w0 p s w) (hz : s.fault = 0) :
    Calls Try.prog 17 #[.agg #[u, v], .pointer (some ⟨p, 0, none⟩), x] w fun en w' => en = .returned (.tuple #[]) ∧ WAt S w0 p (s.fail 22) w' := by
  have hb0 := (Below.refl w.heap.size w).alloc (Nat.le_refl _) (.cells #[u, v] 29)
  have h1 := h.below hb0
  obtain ⟨_, _, _, _, c2, _, _, _⟩ := h1.see
  have HH := hide h1
  have hz' : ((s.fault : Nat) : Int) = 0 := by omega
  rw [hz'] at c2
  have HU := hide hu
  clear h hb0 h1 hz hz'
  rcases hu with ⟨rfl, rfl⟩ | ⟨fn, cap, rfl, rfl⟩ | ⟨fn, cap, rfl, rfl⟩
  all_goals
    go_enter Try.func17, Try.ntmps17
    go_wp2_with fail
    refine (whole_not _ _ HU.out _).mono ?_
    rintro e w1 ⟨rfl, hb1⟩
    have HH1 := hide (HH.out.below hb1)
    clear hb1
    go_wp2_with fail
    refine (Fail_any S w0 p s _ HH1.out).mono ?_
    rintro e w2 ⟨rfl, h2⟩
    go_wp2
    first | go_end0 | refine bodyPost_ret (results_none rfl _ _ _) rfl ?_
    exact ⟨rfl, h2⟩

theorem TakeNot (q : Nat) (u v : Value) (hu : Unwhole u v) (s : K.RS) (w : World) (h : Rr w q s) :
    Calls Try.prog 21 #[.agg #[u, v], .pointer (some ⟨q, 0, none⟩)] w fun en w' => en = .returned (.int .i64 0) ∧ Rr w' q (s.fail 22) ∧ Keep (fun k => k = q) w w' := by
  have hba := (Below.refl w.heap.size w).alloc (Nat.le_refl _) (.cells #[u, v] 29)
  have hra := h.below hba
  have HR := hide hra
  have HB := hide hba
  have HU := hide hu
  obtain ⟨a, c, _, _, c2, _⟩ := hra.see
  clear h hra hba
  by_cases hz : s.fault = 0
  · have hz' : ((s.fault : Nat) : Int) = 0 := by omega
    rw [hz'] at c2
    clear hz hz'
    rcases hu with ⟨rfl, rfl⟩ | ⟨fn, cap, rfl, rfl⟩ | ⟨fn, cap, rfl, rfl⟩
    all_goals
      go_enter Try.func21, Try.ntmps21
      go_wp2_with fail
      refine (whole_not _ _ HU.out _).mono ?_
      rintro e w1 ⟨rfl, hb1⟩
      have HR1 := hide (HR.out.below hb1)
      have HB1 := hide (HB.out.trans (hb1.mono HB.out.size))
      clear hb1
      go_wp2_with fail
      refine (rFail_any q s _ HR1.out).mono ?_
      rintro e w2 ⟨rfl, h2, hk2⟩
      go_wp2
      go_ret
      exact ⟨rfl, h2, (Keep.ofBelow (S := fun k => k = q) HB1.out (Nat.le_refl _)).more hk2⟩
  · have hzz : (((s.fault : Nat) : Int) == 0) = false := by simpa using hz
    have HZ := hide hz
    clear hz
    rcases hu with ⟨rfl, rfl⟩ | ⟨fn, cap, rfl, rfl⟩ | ⟨fn, cap, rfl, rfl⟩
    all_goals
      go_enter Try.func21, Try.ntmps21
      go_wp2
      go_ret
      unfold K.RS.fail
      rw [if_neg HZ.out]
      exact ⟨rfl, HR.out, Keep.ofBelow HB.out (Nat.le_refl _)⟩

theorem failed_ne (s : K.RS) : (s.fail 22).fault ≠ 0 := by
  unfold K.RS.fail
  split
  · exact Nat.succ_ne_zero 21
  · assumption

theorem ReadNot (u v : Value) (hu : Unwhole u v) (a : Option Addr) (n c : Nat) (l : List Nat) (r : Nat) (hr : ((newR l).fail 22).fault = r) (w : World) (h : Rd w a n l) (h0 : a = none → c = 0) :
    Calls Try.prog 12 #[.agg #[u, v], .slice a n c] w fun en w' => en = .returned (.tuple #[.int .i64 0, .int .i64 (r : Nat)]) ∧ Below w.heap.size w w' := by
  have hba := (Below.refl w.heap.size w).alloc (Nat.le_refl _) (.cells #[u, v] 29)
  have HR := hide (h.keep hba)
  have hcf := heap_alloc_new w (.cells #[u, v] 29)
  have H0 := hide h0
  have HB := hide hba
  have HU := hide hu
  have hrz : r ≠ 0 := by rw [← hr]; exact failed_ne _
  have hzz : ((r : Int) == 0) = false := by simpa using hrz
  have he : endR ((newR l).fail 22) = r := by unfold endR; rw [if_neg (fun h => failed_ne _ h.1)]; exact hr
  have HE := hide he
  clear h h0 hba hr hrz he
  rcases hu with ⟨rfl, rfl⟩ | ⟨fn, cap, rfl, rfl⟩ | ⟨fn, cap, rfl, rfl⟩
  all_goals
    go_enter Try.func12, Try.ntmps12
    go_wp2_with fail
    refine (NewReader_any a n c l _ HR.out H0.out).mono ?_
    rintro e w1 ⟨q, rfl, hrr, hq, hb1⟩
    have hblk := (Keep.ofBelow (S := fun _ => False) hb1 (Nat.le_refl _)).blk hcf (fun h => h)
    have d0 := cell_of_row _ _ 0 _ _ _ hblk
    have d1 := cell_of_row _ _ 1 _ _ _ hblk
    have HB1 := hide (HB.out.trans (hb1.mono HB.out.size))
    have HQ := hide (Nat.le_trans HB.out.size hq)
    have HRD := hide hrr
    clear hb1 hblk hcf hq hrr
    go_wp2_with fail
    refine (TakeNot q _ _ HU.out _ _ HRD.out).mono ?_
    rintro e w2 ⟨rfl, hr2, hk2⟩
    have HR2 := hide hr2
    have HB2 := hide (HB1.out.trans (hk2.below (B := w.heap.size) (by have := HB1.out.size; omega) (fun i hi => by have := HQ.out; have : i = q := hi; omega)))
    clear hr2 hk2 d0 d1
    go_wp2_with fail
    refine (End_any q _ _ HR2.out).mono ?_
    rintro e w3 ⟨rfl, hb3⟩
    rw [HE.out]
    have HB3 := hide (HB2.out.trans (hb3.mono HB2.out.size))
    clear hb3
    go_wp2
    go_ret2
    exact ⟨rfl, HB3.out⟩

theorem RNew_any (a : Option Addr) (n c : Nat) (l : List Nat) (w : World) (h : Rd w a n l) (h0 : a = none → c = 0) :
    Calls Try.prog 13 #[.slice a n c] w fun en w' => ∃ q, en = .returned (.pointer (some ⟨q, 0, none⟩)) ∧ w'.cell? ⟨q, 2, none⟩ = some (.int .i64 ((newR l).fault : Nat)) ∧ w'.frozen? ⟨q, 2, none⟩ = false ∧ w.heap.size ≤ q ∧ Below w.heap.size w w' := by
  have hba := (Below.refl w.heap.size w).alloc (Nat.le_refl _) (.cells #[] 5)
  have HR := hide (h.keep hba)
  have H0 := hide h0
  have hl := h.1
  have hn := h.2.1
  have HL := hide hl
  have HBY := hide h.2.2.1
  have HOE := hide (ownsRow_empty w)
  clear h h0 hl hba
  unfold newR
  by_cases hlt : n ≤ 16777216
  · rw [if_pos (by have := HL.out; omega)]
    go_enter Try.func13, Try.ntmps13
    go_wp2_with (at_builtin; refine wpList_append_rd rfl _ _ rfl _ [] w.heap.size rfl HOE.out a n c l rfl HR.out H0.out (by show 0 + _ ≤ _; omega) (by simp) ?_; intro v' w2 ho2 hg hnb; rw [List.nil_append] at ho2; obtain ⟨a', c', hv', hr, h0', hc', _⟩ := ownsRow_rd ho2 HBY.out (by have := HL.out; omega); subst hv'; have HO2 := hide ho2; have HG := hide hg; have HR' := hide hr; have H0' := hide h0'; have HC := hide hc'; clear ho2 hg hnb hr h0' hc')
    go_ret
    have hb := below_grown (Below.refl _ _) _ HG.out fun k hk => (HOE.out.lt k hk).1
    exact ⟨w2.heap.size, rfl, cell2 (heap_alloc_new w2 _), frozen_of_row _ _ 2 _ _ (heap_alloc_new w2 _), hb.size, hb.alloc hb.size _⟩
  · rw [if_neg (by have := HL.out; omega)]
    go_enter Try.func13, Try.ntmps13
    go_wp2
    go_ret
    exact ⟨w.heap.size, rfl, cell2 (heap_alloc_new w _), frozen_of_row _ _ 2 _ _ (heap_alloc_new w _), Nat.le_refl _, (Below.refl _ _).alloc (Nat.le_refl _) _⟩

theorem RWrong_any (q : Nat) (s : K.RS) (w : World) (h : w.cell? ⟨q, 2, none⟩ = some (.int .i64 (s.fault : Nat))) (hf : w.frozen? ⟨q, 2, none⟩ = false) :
    Calls Try.prog 28 #[.pointer (some ⟨q, 0, none⟩), .int .i64 22] w fun en w' => en = .returned (.tuple #[]) ∧ w'.cell? ⟨q, 2, none⟩ = some (.int .i64 ((s.fail 22).fault : Nat)) ∧ Keep (fun k => k = q) w w' := by
  unfold K.RS.fail
  by_cases hz : s.fault = 0
  · rw [if_pos hz]
    have h' := h
    rw [hz] at h'
    have HC := hide h
    clear hz h
    go_enter Try.func28, Try.ntmps28
    go_wp2
    go_end0
    refine ⟨rfl, ?_, Keep.setCell (S := fun k => k = q) w (p := ⟨q, 2, none⟩) rfl _⟩
    rw [World.cell?_setCell_same _ _ _ HC.out]
    rfl
  · rw [if_neg hz]
    have hzz : (((s.fault : Nat) : Int) == 0) = false := by simpa using hz
    clear hz
    go_enter Try.func28, Try.ntmps28
    go_wp2
    go_end0
    exact ⟨rfl, h, Keep.refl _ _⟩

end Go.Proofs.Ytnoniccbmojmlaa
