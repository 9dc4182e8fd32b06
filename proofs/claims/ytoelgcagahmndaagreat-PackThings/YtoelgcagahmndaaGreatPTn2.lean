import Derived.Test.YtoelgcagahmndaaGreatPRdM
import Derived.Test.YtoelgcagahmndaaGreatPTo5
/- The law's numbers: a list of numbers off the document's reader. -/
namespace Go.Proofs.YtoelgcagahmndaaGreat
namespace Wm
open Go.RowKit Go.Deep

/-- a row of numbers, the reader beside it -/
structure Nb (w wr : World) (q : Nat) (s : K.RS) (v : Value) (ys : List Int) : Prop where
  qr : Qr wr q s
  row : wr.ownsRow w.heap.size 3 1 v ys.length (iv ys)
  kp : Keep (fun k => k = q) w wr
  lt : q < w.heap.size
theorem row_nq {w : World} {b : Nat} {v : Value} {n : Nat} {l : List Value} (h : w.ownsRow b 3 1 v n l) {q : Nat} {s : K.RS} (hq : Qr w q s) : v.ownBlock ≠ some q := by
  obtain ⟨a, c, h1, _⟩ := hq.ex
  exact row_off h h1 (by decide)
theorem Nb.take {w wr w' : World} {q : Nat} {s s' : K.RS} {v : Value} {ys : List Int} (h : Nb w wr q s v ys) (hq : Qr w' q s') (hk : Keep (fun k => k = q) wr w') : Nb w w' q s' v ys :=
  ⟨hq, by
    refine ⟨h.row.1, ?_⟩
    rcases h.row.2 with h' | ⟨g, cap, cur, e1, e2, e3, e4⟩
    · exact .inl h'
    · exact .inr ⟨g, cap, cur, e1, e2, hk.blk e3 (fun e => row_nq h.row h.qr (by rw [e1]; show some g = some q; rw [e])), e4⟩, h.kp.more hk, h.lt⟩
theorem Nb.grow {w wr w' : World} {q : Nat} {s : K.RS} {v v' : Value} {ys : List Int} {y : Int} {o : Obj} (h : Nb w wr q s v ys) (hr : w'.ownsRow w.heap.size 3 1 v' (ys.length + 1) (iv ys ++ [.int .i64 y])) (hg : (wr.alloc o).grownBy w' v.ownBlock) : Nb w w' q s v' (ys ++ [y]) := by
  have hk : Keep (fun k => v.ownBlock = some k) (wr.alloc o) w' := Keep.grown hg fun k e => e
  have hqa : Qr (wr.alloc o) q s := h.qr.below ((Below.refl _ _).alloc (Nat.le_refl _) o)
  refine ⟨?_, by rw [List.length_append, show iv (ys ++ [y]) = iv ys ++ [.int .i64 y] by simp [iv]]; exact hr, ?_, h.lt⟩
  · refine hqa.stay hk fun k hkq e => ?_
    have h1 := (h.row.lt k e).1
    have h2 := h.lt
    omega
  · exact (h.kp.more ((Keep.alloc (fun k => k = q) wr o))).trans hk fun i e => .inr (h.row.lt i e).1
/-- a number behind a row of the call's own -/
theorem wp_append_num {w : World} {ops : Array Oper} {rest : List Oper} {o : Oper} {ac : Act} {Q : Exit → Act → World → Prop} (hgd : o.guard = none) (s x : Operand)
    (ho : o.op = .call { callee := .builtin .append, args := #[s, x], argTypes := #[70, 70] })
    (v : Value) (n : Nat) (xs : List Value) (base : Nat) (hs : ac.eval s = v) (hown : w.ownsRow base 3 1 v n xs) (B : Nat) (y : Int) (hx : ac.eval x = .slice (some ⟨B, 0, none⟩) 1 1) (hB : w.cell? ⟨B, 0, none⟩ = some (.int .i64 y)) (hl : n ≤ 16777216) (hbase : base ≤ w.heap.size)
    (h : ∀ a c w', w'.ownsRow base 3 1 (.slice a (n + 1) c) (n + 1) (xs ++ [.int .i64 y]) → w.grownBy w' v.ownBlock → wpList Tryz.prog ops Q rest (ac.put o.dst (.slice a (n + 1) c)) w') : wpList Tryz.prog ops Q (o :: rest) ac w := by
  obtain ⟨a, c, w', hr, h1, h2⟩ := append_num hown hbase hl hB o.type
  refine wpList_plain hgd fun K hK => ?_
  unfold Oper.wp
  simp [execOp, ho, resolve, invoke, builtin, hs, hx, hr, Result.andThen]
  exact hK _ _ (h a c w' h1 h2)
theorem ok_int (g : K.RS → K.RS) (s : K.RS) (x : Nat) : okR g s ((x : Nat) : Int) 0 = ((okR g s x 0 : Nat) : Int) := by unfold okR; split <;> rfl
theorem Qr.cell2 {w : World} {q : Nat} {s : K.RS} (h : Qr w q s) : w.cell? ⟨q, 2, none⟩ = some (.int .i64 (s.fault : Nat)) := by
  obtain ⟨a, c, h1, _⟩ := h.ex
  rw [cell_of_row _ _ _ _ _ _ h1]; rfl
/-- a block of numbers -/
def TI (w : World) (k : Nat) : Prop := ∃ cs, w.heap[k]? = some (.cells cs 3 (0, 0))
theorem els_ti {w w' : World} {S : Nat → Prop} {a : Option Addr} {n : Nat} {vs : List Value} (h : Els (TI w) w a n vs) (hk : Keep S w w') (hS : ∀ k, TI w k → ¬ S k) : Els (TI w') w' a n vs := by
  refine ⟨h.1, h.2.1, h.2.2.imp id ?_⟩
  rintro ⟨b, off, e, hd, hc⟩
  obtain ⟨cs, hcs⟩ := hd
  exact ⟨b, off, e, ⟨cs, hk.blk hcs (hS b ⟨cs, hcs⟩)⟩, fun i v hv => hk.cell (hc i v hv) (hS b ⟨cs, hcs⟩)⟩
theorem els_ti_nr {w : World} {a : Option Addr} {n : Nat} {vs : List Value} (h : Els (TI w) w a n vs) : Els (NR w) w a n vs := by
  refine ⟨h.1, h.2.1, h.2.2.imp id ?_⟩
  rintro ⟨b, off, e, ⟨cs, hcs⟩, hc⟩
  refine ⟨b, off, e, ⟨(Array.getElem?_eq_some_iff.1 hcs).1, fun cs' t fz e2 => ?_⟩, hc⟩
  rw [hcs] at e2
  injection e2 with e2
  injection e2 with _ e2 _
  rw [← e2]
  decide
theorem row_ti {w : World} {b : Nat} {a : Option Addr} {n c : Nat} {xs : List Value} (h : w.ownsRow b 3 1 (.slice a n c) n xs) (hn : n ≤ 140737488351232) : Els (TI w) w a n xs := by
  have hx : n = xs.length := by have := h.1; omega
  rcases h.2 with ⟨_, h0⟩ | ⟨g, cap, cur, e, _, hg, _⟩
  · exact ⟨hx, hn, .inl h0⟩
  · injection e with e1 e2 e3
    subst e1
    refine ⟨hx, hn, .inr ⟨g, 0, rfl, ⟨cur, hg⟩, fun i x hx => ?_⟩⟩
    have := h.cells (g := g) rfl i x hx
    rw [Addr.add_lit] at this
    exact this
theorem elsT0 (w : World) : Els (TI w) w none 0 [] := ⟨rfl, by decide, .inl rfl⟩
def NbE (q : Nat) (s' : K.RS) (l : List Int) (w : World) (en : Ending) (w' : World) : Prop := ∃ a n c, en = .returned (.slice a n c) ∧ Els (TI w') w' a n (iv l) ∧ Qr w' q s' ∧ Keep (fun k => k = q) w w'
set_option maxRecDepth 10000 in
set_option maxHeartbeats 1000000 in
theorem numbers_any (q : Nat) (mo le hi : Int) (s : K.RS) (w : World) (h : Qr w q s) :
    Calls Tryz.prog 100 #[.pointer (some ⟨q, 0, none⟩), .int .i64 mo, .int .i64 le, .int .i64 hi] w (NbE q (takeR (listR (min mo 16777216) (numR le hi)) s) (lvI (min mo 16777216) le hi s) w) := by
  have HH := hide h
  have hlt := h.lt
  have HG : Hid (Gn (numR le hi)) := gn_rw (rw_num le hi)
  have HLA := hide (list_all mo (numR le hi) s)
  have HLV : Hid ((takeR (listR (min mo 16777216) (numR le hi)) s).fault = 0 → lvI (min mo 16777216) le hi s = valsOf (numR le hi) (fun s => ((numV s : Nat) : Int)) (hdN mo s) (takeR (headR mo) s)) := fun hz => by unfold lvI; rw [okR_yes hz]; exact list_vals mo (numR le hi) _ s hz
  have HLN : Hid ((takeR (listR (min mo 16777216) (numR le hi)) s).fault ≠ 0 → lvI (min mo 16777216) le hi s = []) := fun hz => by unfold lvI; rw [okR_no hz]
  have hN : hdN mo s ≤ 16777216 := Nat.le_trans (hd_le mo s) h.top
  have HHd : Hid (okR (headR mo) s ((headV mo s : Nat) : Int) 0 = ((hdN mo s : Nat) : Int)) := ok_int _ _ _
  obtain ⟨LV, hLV⟩ : ∃ LV, lvI (min mo 16777216) le hi s = LV := ⟨_, rfl⟩
  obtain ⟨sF, hsF⟩ : ∃ sF, takeR (listR (min mo 16777216) (numR le hi)) s = sF := ⟨_, rfl⟩
  rw [hLV] at HLV HLN ⊢
  rw [hsF] at HLV HLN HLA ⊢
  clear hLV hsF h
  go_enter Tryz.func100, Tryz.ntmps100
  go_wp2_with fail
  refine (RHeadZ q mo s _ HH.out).mono ?_
  rintro e w1 ⟨rfl, hq1, hk1⟩
  rw [HHd.out]
  have HNb : Hid (Nb w w1 q (takeR (headR mo) s) (.slice none 0 0) []) := ⟨hq1, World.ownsRow_nil _ _ _ _, hk1, hlt⟩
  clear hq1 hk1 HHd HH
  generalize takeR (headR mo) s = s1 at *
  generalize hdN mo s = n at *
  go_wp2_with fail
  go_loopw [10, 11] (fun v iv wr => ∃ (k : Nat) (a : Option Addr) (c : Nat) (ys : List Int), v = .slice a k c ∧ iv = .int .i64 (k : Nat) ∧ k ≤ n ∧ Hid (Nb w wr q (allR (numR le hi) k s1) (.slice a k c) ys ∧ Lst (numR le hi) (fun s => ((numV s : Nat) : Int)) k s1 ys)) (fun _ iv _ => n - (intOf iv).toNat)
  case atStart => exact ⟨0, none, 0, [], rfl, rfl, Nat.zero_le _, HNb.out, Lst.nil _ _ _⟩
  case round => as_aux_lemma =>
    clear HNb
    obtain ⟨k, a, c, ys, rfl, rfl, hk, HD⟩ := hrel
    have c2 := Qr.cell2 HD.out.1.qr
    by_cases hz : (allR (numR le hi) k s1).fault = 0
    · rw [hz] at c2
      by_cases hlt2 : k < n
      · have hlt' : (k : Int) < (n : Int) := by omega
        have HST := hide (all_step HG.out HD.out.1.qr)
        have HRT := hide (fun W (hq : Qr W q (allR (numR le hi) k s1)) => RTakeZ q le hi (allR (numR le hi) k s1) W hq)
        have HV : Hid ((takeR (numR le hi) (allR (numR le hi) k s1)).fault = 0 → okR (numR le hi) (allR (numR le hi) k s1) ((numV (allR (numR le hi) k s1) : Nat) : Int) 0 = ((numV (allR (numR le hi) k s1) : Nat) : Int)) := fun hz => okR_yes hz _ _
        clear hz
        generalize hy : okR (numR le hi) (allR (numR le hi) k s1) ((numV (allR (numR le hi) k s1) : Nat) : Int) 0 = y at *
        clear hy
        go_wp2_with (first
          | (go_at_call 70; refine (HRT.out _ HD.out.1.qr).mono ?_; rintro e w2 ⟨rfl, hq2, hk2⟩; have HN2 := hide (HD.out.1.take hq2 hk2); clear hq2 hk2)
          | (at_builtin; refine wp_append_num rfl _ _ rfl (.slice a k c) k (iv ys) w.heap.size rfl (by have := HN2.out.row; rw [HD.out.2.1] at this; exact ownsRow_keepB this ((Below.refl _ _).alloc (Nat.le_refl _) _)) w2.heap.size y rfl (cell_1 w2 _ _) (by omega) (Nat.le_trans HN2.out.kp.size (by simp)) ?_; intro a3 c3 w3 ho3 hg3; have HN3 := hide (HN2.out.grow (by rw [HD.out.2.1]; exact ho3) hg3); clear ho3 hg3))
        exact ⟨⟨k + 1, a3, c3, ys ++ [y], rfl, by go_num, by omega, by rw [← HST.out]; exact HN3.out, HD.out.2.step HST.out HV.out⟩, by simp [intOf]; omega⟩
      · obtain rfl : k = n := by omega
        obtain ⟨_, e2⟩ := HD.out.2.done (Nat.le_refl _) (.inl rfl)
        have e1 : sF = allR (numR le hi) k s1 := HLA.out
        rw [← HLA.out] at e2
        have HE : Hid (NbE q sF LV w (.returned (.slice a k c)) wr) := by
          have hzF : sF.fault = 0 := by rw [e1]; exact hz
          refine ⟨a, k, c, rfl, ?_, by rw [e1]; exact HD.out.1.qr, HD.out.1.kp⟩
          rw [HLV.out hzF, ← e2 hzF]
          have hr := HD.out.1.row
          rw [HD.out.2.1] at hr
          exact row_ti hr (by omega)
        clear hz e1 e2
        go_wp2_with fail
        go_ret
        exact HE.out
    · have hne : (((allR (numR le hi) k s1).fault : Int) != 0) = true := by simp only [bne_iff_ne, ne_eq]; omega
      have hne2 : (((allR (numR le hi) k s1).fault : Int) == 0) = false := by simp only [beq_eq_false_iff_ne, ne_eq]; omega
      obtain ⟨e1, _⟩ := HD.out.2.done hk (.inr hz)
      rw [← HLA.out] at e1
      have HE : Hid (NbE q sF LV w (.returned (.slice none 0 0)) wr) := ⟨none, 0, 0, rfl, by rw [HLN.out (by rw [e1]; exact hz)]; exact elsT0 _, by rw [e1]; exact HD.out.1.qr, HD.out.1.kp⟩
      clear hz e1
      generalize (allR (numR le hi) k s1).fault = ft at *
      by_cases hlt2 : k < n
      · have hlt' : (k : Int) < (n : Int) := by omega
        go_wp2_with fail
        go_ret
        exact HE.out
      · have hge : ¬ ((k : Int) < (n : Int)) := by omega
        go_wp2_with fail
        go_ret
        exact HE.out
end Wm
end Go.Proofs.YtoelgcagahmndaaGreat

/- The law's taken of a step: plain values, a list of numbers (written by tn_gen.py). -/
namespace Go.Proofs.YtoelgcagahmndaaGreat
namespace Wm
open Go.RowKit Go.Deep

/-- what taken does -/
def TkQ (r : Nat) (s' : K.RS) (t : Td) (w : World) (en : Ending) (w' : World) : Prop := ∃ v, en = .returned v ∧ TdV w' v t ∧ Qr w' r s' ∧ Keep (fun k => k = r) w w'
theorem Bk.doneQ {w W W' : World} {r g g1 : Nat} {cs : Array Value} {s' : K.RS} {t : Td} (h : Bk w W g g1 cs) (hr : Qr W r s') (hrw : r < w.heap.size) (hk : Keep (fun k => k = r) w W) (k7 : Keep (fun k => k = g1) W W') {aT nT cT aL nL cL aD nD cD} (hT : Els (NR W) W aT nT (sv t.T)) (hL : Els (NR W) W aL nL (iv t.L)) (hD : RowsAt (NR W) W aD nD t.D) :
    TkQ r s' t w (.returned (.agg #[.int .i64 t.N, .int .u64 (t.W : Nat), .bool t.F, .string t.S, .slice aT nT cT, .slice aL nL cL, .slice aD nD cD])) W' := by
  have hS : ∀ k, k = g1 → k < W.heap.size → IsR W k := fun k e _ => by rw [e]; exact ⟨_, _, _, h.td, by decide⟩
  have hb := h.b
  exact ⟨_, rfl, ⟨_, _, _, _, _, _, _, _, _, rfl, els_nr hT k7 hS, els_nr hL k7 hS, rows_nr hD k7 hS⟩, hr.stay k7 fun k hk e => by have : k = g1 := e; omega, hk.trans k7 fun i e => .inr (by have : i = g1 := e; omega)⟩
theorem str_nil : str [] = ⟨#[]⟩ := by decide +kernel
theorem ok_str (g : K.RS → K.RS) (s : K.RS) (l : List Nat) : str (okR g s l []) = okR g s (str l) ⟨#[]⟩ := by unfold okR; split; rfl; exact str_nil
theorem z7_info : (Tryz.prog.info? 77).map (·.size) = some 7 := info_told
theorem wrong_any (q : Nat) (s : K.RS) (e : Nat) (w : World) (h : Qr w q s) :
    Calls Tryz.prog 25 #[.pointer (some ⟨q, 0, none⟩), .int .i64 (e : Nat)] w fun en w' => en = .returned (.tuple #[]) ∧ Qr w' q (s.fail e) ∧ Keep (fun k => k = q) w w' := by
  have c2 := Qr.cell2 h
  obtain ⟨a, c, hb, _⟩ := h.ex
  have f2 := frozen_of_row w q 2 _ _ hb
  have HH := hide h
  clear h hb
  unfold K.RS.fail
  by_cases hz : s.fault = 0
  · rw [hz] at c2
    rw [if_pos hz]
    have H2 := hide (HH.out.set2 e)
    go_enter Tryz.func25, Tryz.ntmps25
    go_wp2
    go_end0
    exact ⟨rfl, H2.out, keep_cell _ _ _ _⟩
  · rw [if_neg hz]
    have hzz : (((s.fault : Nat) : Int) == 0) = false := by simpa using hz
    clear hz
    go_enter Tryz.func25, Tryz.ntmps25
    go_wp2
    go_end0
    exact ⟨rfl, HH.out, Keep.refl _ _⟩
set_option maxRecDepth 100000 in
set_option maxHeartbeats 4000000 in
theorem taken_num (r : Nat) (s : K.RS) (wh : Int) (le mo nn : Int) (x4 x5 x6 x7 x8 x9 x10 : Value) (w : World) (h : Qr w r s) (h1 : -9223372036854775808 ≤ wh) (h2 : wh ≤ 9223372036854775807) (hk : ((pk wh : Nat) : Int) = 0) :
    Calls Tryz.prog 34 #[.pointer (some ⟨r, 0, none⟩), .agg #[.int .i64 wh, .int .i64 le, .int .i64 mo, .int .i64 nn, x4, x5, x6, x7, x8, x9, x10]] w (TkQ r (takeR (numR le mo) s) ({ td0 with N := okR (numR le mo) s ((numV s : Nat) : Int) 0 }) w) := by
  have hrw := h.lt
  have HH := hide h
  have HB : Hid (Bk w ((w.alloc (.cells #[.int .i64 wh, .int .i64 le, .int .i64 mo, .int .i64 nn, x4, x5, x6, x7, x8, x9, x10] 74)).alloc (.cells z7 77)) w.heap.size (w.heap.size + 1) #[.int .i64 wh, .int .i64 le, .int .i64 mo, .int .i64 nn, x4, x5, x6, x7, x8, x9, x10]) := ⟨Nat.le_refl _, by omega, (Keep.alloc (fun _ => False) _ _).blk (heap_alloc_new w _) fun f => f, by have := heap_alloc_new (w.alloc (.cells #[.int .i64 wh, .int .i64 le, .int .i64 mo, .int .i64 nn, x4, x5, x6, x7, x8, x9, x10] 74)) (.cells z7 77); simpa using this⟩
  have HK : Hid (Below w.heap.size w ((w.alloc (.cells #[.int .i64 wh, .int .i64 le, .int .i64 mo, .int .i64 nn, x4, x5, x6, x7, x8, x9, x10] 74)).alloc (.cells z7 77))) := ((Below.refl _ _).alloc (Nat.le_refl _) _).alloc (by simp) _
  have HR := hide (h.below HK.out)
  have HKr := hide (Keep.ofBelow (S := fun k => k = r) HK.out (Nat.le_refl _))
  obtain ⟨s1, hs1⟩ : ∃ s1, takeR (numR le mo) s = s1 := ⟨_, rfl⟩
  rw [hs1]
  have HS1 := hide hs1
  clear h hs1
  go_enter Tryz.func34, Tryz.ntmps34
  go_upto_region 1 with fail
  change Code.wp _ _ _ _ ((w.alloc (.cells #[.int .i64 wh, .int .i64 le, .int .i64 mo, .int .i64 nn, x4, x5, x6, x7, x8, x9, x10] 74)).alloc (.cells z7 77))
  generalize (w.alloc (.cells #[.int .i64 wh, .int .i64 le, .int .i64 mo, .int .i64 nn, x4, x5, x6, x7, x8, x9, x10] 74)).alloc (.cells z7 77) = W at *
  generalize hg : w.heap.size = g at *
  have HG := hide hg
  clear hg
  obtain ⟨y0, _⟩ := cells11 HB.out.st
  go_wp2_with fail
  refine (pick_any wh h1 h2 _).mono ?_
  rintro e w1 ⟨rfl, rfl⟩
  rw [hk]
  clear y0
  obtain ⟨_, y1, y2, _, _, _, _, _, _, _, _⟩ := cells11 HB.out.st
  have HI7 : Hid ((Tryz.prog.info? 77).map (·.size) = some (#[.int .i64 (okR (numR le mo) s ((numV s : Nat) : Int) 0), .int .u64 0, .bool false, .string ⟨#[]⟩, .slice none 0 0, .slice none 0 0, .slice none 0 0] : Array Value).size) := by show _ = _; rw [info_told]; rfl
  have HO7 : Hid ((#[.int .i64 (okR (numR le mo) s ((numV s : Nat) : Int) 0), .int .u64 0, .bool false, .string ⟨#[]⟩, .slice none 0 0, .slice none 0 0, .slice none 0 0] : Array Value).all (·.oneCell') = true) := by show _ = _; simp [Value.oneCell']
  go_wp2_with (first
    | (go_at_call 70; refine (RTakeZ r le mo s _ HR.out).mono ?_; rintro e w9 ⟨rfl, hr9, hk9⟩; rw [HS1.out] at hr9; have HR9 := hide hr9; have HK9 := hide (HKr.out.more hk9); have HBk := hide (HB.out.keep hk9 (by have := HG.out; omega)); have HTG := hide HBk.out.td; clear hr9 hk9)
    | (refine wpList_store_row rfl 77 _ _ rfl (g + 1) #[.int .i64 (okR (numR le mo) s ((numV s : Nat) : Int) 0), .int .u64 0, .bool false, .string ⟨#[]⟩, .slice none 0 0, .slice none 0 0, .slice none 0 0] rfl rfl 77 _ HTG.out HI7.out rfl HO7.out ?_))
  have HF := hide (setRow_heap _ (g + 1) _ #[.int .i64 (okR (numR le mo) s ((numV s : Nat) : Int) 0), .int .u64 0, .bool false, .string ⟨#[]⟩, .slice none 0 0, .slice none 0 0, .slice none 0 0] _ _ HTG.out)
  have HE := hide (HBk.out.doneQ (t := { td0 with N := okR (numR le mo) s ((numV s : Nat) : Int) 0 }) HR9.out (by have := HG.out; omega) HK9.out (keep_row _ (g + 1) #[.int .i64 (okR (numR le mo) s ((numV s : Nat) : Int) 0), .int .u64 0, .bool false, .string ⟨#[]⟩, .slice none 0 0, .slice none 0 0, .slice none 0 0]) (cT := 0) (cL := 0) (cD := 0) (els0 _) (els0 _) (rows0 _))
  exact bodyPost_ret (res7 rfl _ _ (g + 1) (.int .i64 (okR (numR le mo) s ((numV s : Nat) : Int) 0)) (.int .u64 0) (.bool false) (.string ⟨#[]⟩) (.slice none 0 0) (.slice none 0 0) (.slice none 0 0) rfl HF.out) rfl HE.out
set_option maxRecDepth 100000 in
set_option maxHeartbeats 4000000 in
theorem taken_word (r : Nat) (s : K.RS) (wh : Int)  (x1 x2 x3 x4 x5 x6 x7 x8 x9 x10 : Value) (w : World) (h : Qr w r s) (h1 : -9223372036854775808 ≤ wh) (h2 : wh ≤ 9223372036854775807) (hk : ((pk wh : Nat) : Int) = 1) :
    Calls Tryz.prog 34 #[.pointer (some ⟨r, 0, none⟩), .agg #[.int .i64 wh, x1, x2, x3, x4, x5, x6, x7, x8, x9, x10]] w (TkQ r (takeR wordR s) ({ td0 with W := okR wordR s (wordV s) 0 }) w) := by
  have hrw := h.lt
  have HH := hide h
  have HB : Hid (Bk w ((w.alloc (.cells #[.int .i64 wh, x1, x2, x3, x4, x5, x6, x7, x8, x9, x10] 74)).alloc (.cells z7 77)) w.heap.size (w.heap.size + 1) #[.int .i64 wh, x1, x2, x3, x4, x5, x6, x7, x8, x9, x10]) := ⟨Nat.le_refl _, by omega, (Keep.alloc (fun _ => False) _ _).blk (heap_alloc_new w _) fun f => f, by have := heap_alloc_new (w.alloc (.cells #[.int .i64 wh, x1, x2, x3, x4, x5, x6, x7, x8, x9, x10] 74)) (.cells z7 77); simpa using this⟩
  have HK : Hid (Below w.heap.size w ((w.alloc (.cells #[.int .i64 wh, x1, x2, x3, x4, x5, x6, x7, x8, x9, x10] 74)).alloc (.cells z7 77))) := ((Below.refl _ _).alloc (Nat.le_refl _) _).alloc (by simp) _
  have HR := hide (h.below HK.out)
  have HKr := hide (Keep.ofBelow (S := fun k => k = r) HK.out (Nat.le_refl _))
  obtain ⟨s1, hs1⟩ : ∃ s1, takeR wordR s = s1 := ⟨_, rfl⟩
  rw [hs1]
  have HS1 := hide hs1
  clear h hs1
  go_enter Tryz.func34, Tryz.ntmps34
  go_upto_region 1 with fail
  change Code.wp _ _ _ _ ((w.alloc (.cells #[.int .i64 wh, x1, x2, x3, x4, x5, x6, x7, x8, x9, x10] 74)).alloc (.cells z7 77))
  generalize (w.alloc (.cells #[.int .i64 wh, x1, x2, x3, x4, x5, x6, x7, x8, x9, x10] 74)).alloc (.cells z7 77) = W at *
  generalize hg : w.heap.size = g at *
  have HG := hide hg
  clear hg
  obtain ⟨y0, _⟩ := cells11 HB.out.st
  go_wp2_with fail
  refine (pick_any wh h1 h2 _).mono ?_
  rintro e w1 ⟨rfl, rfl⟩
  rw [hk]
  clear y0
  obtain ⟨_, _, _, _, _, _, _, _, _, _, _⟩ := cells11 HB.out.st
  have HI7 : Hid ((Tryz.prog.info? 77).map (·.size) = some (#[.int .i64 0, .int .u64 ((okR wordR s (wordV s) 0 : Nat) : Int), .bool false, .string ⟨#[]⟩, .slice none 0 0, .slice none 0 0, .slice none 0 0] : Array Value).size) := by show _ = _; rw [info_told]; rfl
  have HO7 : Hid ((#[.int .i64 0, .int .u64 ((okR wordR s (wordV s) 0 : Nat) : Int), .bool false, .string ⟨#[]⟩, .slice none 0 0, .slice none 0 0, .slice none 0 0] : Array Value).all (·.oneCell') = true) := by show _ = _; simp [Value.oneCell']
  go_wp2_with (first
    | (go_at_call 97; refine (RTakeWordZ r s _ HR.out).mono ?_; rintro e w9 ⟨rfl, hr9, hk9⟩; rw [HS1.out] at hr9; have HR9 := hide hr9; have HK9 := hide (HKr.out.more hk9); have HBk := hide (HB.out.keep hk9 (by have := HG.out; omega)); have HTG := hide HBk.out.td; clear hr9 hk9)
    | (refine wpList_store_row rfl 77 _ _ rfl (g + 1) #[.int .i64 0, .int .u64 ((okR wordR s (wordV s) 0 : Nat) : Int), .bool false, .string ⟨#[]⟩, .slice none 0 0, .slice none 0 0, .slice none 0 0] rfl rfl 77 _ HTG.out HI7.out rfl HO7.out ?_))
  have HF := hide (setRow_heap _ (g + 1) _ #[.int .i64 0, .int .u64 ((okR wordR s (wordV s) 0 : Nat) : Int), .bool false, .string ⟨#[]⟩, .slice none 0 0, .slice none 0 0, .slice none 0 0] _ _ HTG.out)
  have HE := hide (HBk.out.doneQ (t := { td0 with W := okR wordR s (wordV s) 0 }) HR9.out (by have := HG.out; omega) HK9.out (keep_row _ (g + 1) #[.int .i64 0, .int .u64 ((okR wordR s (wordV s) 0 : Nat) : Int), .bool false, .string ⟨#[]⟩, .slice none 0 0, .slice none 0 0, .slice none 0 0]) (cT := 0) (cL := 0) (cD := 0) (els0 _) (els0 _) (rows0 _))
  exact bodyPost_ret (res7 rfl _ _ (g + 1) (.int .i64 0) (.int .u64 ((okR wordR s (wordV s) 0 : Nat) : Int)) (.bool false) (.string ⟨#[]⟩) (.slice none 0 0) (.slice none 0 0) (.slice none 0 0) rfl HF.out) rfl HE.out
set_option maxRecDepth 100000 in
set_option maxHeartbeats 4000000 in
theorem taken_flag (r : Nat) (s : K.RS) (wh : Int)  (x1 x2 x3 x4 x5 x6 x7 x8 x9 x10 : Value) (w : World) (h : Qr w r s) (h1 : -9223372036854775808 ≤ wh) (h2 : wh ≤ 9223372036854775807) (hk : ((pk wh : Nat) : Int) = 2) :
    Calls Tryz.prog 34 #[.pointer (some ⟨r, 0, none⟩), .agg #[.int .i64 wh, x1, x2, x3, x4, x5, x6, x7, x8, x9, x10]] w (TkQ r (takeR flagR s) ({ td0 with F := okR flagR s (flagV s) false }) w) := by
  have hrw := h.lt
  have HH := hide h
  have HB : Hid (Bk w ((w.alloc (.cells #[.int .i64 wh, x1, x2, x3, x4, x5, x6, x7, x8, x9, x10] 74)).alloc (.cells z7 77)) w.heap.size (w.heap.size + 1) #[.int .i64 wh, x1, x2, x3, x4, x5, x6, x7, x8, x9, x10]) := ⟨Nat.le_refl _, by omega, (Keep.alloc (fun _ => False) _ _).blk (heap_alloc_new w _) fun f => f, by have := heap_alloc_new (w.alloc (.cells #[.int .i64 wh, x1, x2, x3, x4, x5, x6, x7, x8, x9, x10] 74)) (.cells z7 77); simpa using this⟩
  have HK : Hid (Below w.heap.size w ((w.alloc (.cells #[.int .i64 wh, x1, x2, x3, x4, x5, x6, x7, x8, x9, x10] 74)).alloc (.cells z7 77))) := ((Below.refl _ _).alloc (Nat.le_refl _) _).alloc (by simp) _
  have HR := hide (h.below HK.out)
  have HKr := hide (Keep.ofBelow (S := fun k => k = r) HK.out (Nat.le_refl _))
  obtain ⟨s1, hs1⟩ : ∃ s1, takeR flagR s = s1 := ⟨_, rfl⟩
  rw [hs1]
  have HS1 := hide hs1
  clear h hs1
  go_enter Tryz.func34, Tryz.ntmps34
  go_upto_region 1 with fail
  change Code.wp _ _ _ _ ((w.alloc (.cells #[.int .i64 wh, x1, x2, x3, x4, x5, x6, x7, x8, x9, x10] 74)).alloc (.cells z7 77))
  generalize (w.alloc (.cells #[.int .i64 wh, x1, x2, x3, x4, x5, x6, x7, x8, x9, x10] 74)).alloc (.cells z7 77) = W at *
  generalize hg : w.heap.size = g at *
  have HG := hide hg
  clear hg
  obtain ⟨y0, _⟩ := cells11 HB.out.st
  go_wp2_with fail
  refine (pick_any wh h1 h2 _).mono ?_
  rintro e w1 ⟨rfl, rfl⟩
  rw [hk]
  clear y0
  obtain ⟨_, _, _, _, _, _, _, _, _, _, _⟩ := cells11 HB.out.st
  have HI7 : Hid ((Tryz.prog.info? 77).map (·.size) = some (#[.int .i64 0, .int .u64 0, .bool (okR flagR s (flagV s) false), .string ⟨#[]⟩, .slice none 0 0, .slice none 0 0, .slice none 0 0] : Array Value).size) := by show _ = _; rw [info_told]; rfl
  have HO7 : Hid ((#[.int .i64 0, .int .u64 0, .bool (okR flagR s (flagV s) false), .string ⟨#[]⟩, .slice none 0 0, .slice none 0 0, .slice none 0 0] : Array Value).all (·.oneCell') = true) := by show _ = _; simp [Value.oneCell']
  go_wp2_with (first
    | (go_at_call 98; refine (RTakeFlagZ r s _ HR.out).mono ?_; rintro e w9 ⟨rfl, hr9, hk9⟩; rw [HS1.out] at hr9; have HR9 := hide hr9; have HK9 := hide (HKr.out.more hk9); have HBk := hide (HB.out.keep hk9 (by have := HG.out; omega)); have HTG := hide HBk.out.td; clear hr9 hk9)
    | (refine wpList_store_row rfl 77 _ _ rfl (g + 1) #[.int .i64 0, .int .u64 0, .bool (okR flagR s (flagV s) false), .string ⟨#[]⟩, .slice none 0 0, .slice none 0 0, .slice none 0 0] rfl rfl 77 _ HTG.out HI7.out rfl HO7.out ?_))
  have HF := hide (setRow_heap _ (g + 1) _ #[.int .i64 0, .int .u64 0, .bool (okR flagR s (flagV s) false), .string ⟨#[]⟩, .slice none 0 0, .slice none 0 0, .slice none 0 0] _ _ HTG.out)
  have HE := hide (HBk.out.doneQ (t := { td0 with F := okR flagR s (flagV s) false }) HR9.out (by have := HG.out; omega) HK9.out (keep_row _ (g + 1) #[.int .i64 0, .int .u64 0, .bool (okR flagR s (flagV s) false), .string ⟨#[]⟩, .slice none 0 0, .slice none 0 0, .slice none 0 0]) (cT := 0) (cL := 0) (cD := 0) (els0 _) (els0 _) (rows0 _))
  exact bodyPost_ret (res7 rfl _ _ (g + 1) (.int .i64 0) (.int .u64 0) (.bool (okR flagR s (flagV s) false)) (.string ⟨#[]⟩) (.slice none 0 0) (.slice none 0 0) (.slice none 0 0) rfl HF.out) rfl HE.out
set_option maxRecDepth 100000 in
set_option maxHeartbeats 4000000 in
theorem taken_text (r : Nat) (s : K.RS) (wh : Int) (mo : Int) (x1 x3 x4 x5 x6 x7 x8 x9 x10 : Value) (w : World) (h : Qr w r s) (h1 : -9223372036854775808 ≤ wh) (h2 : wh ≤ 9223372036854775807) (hk : ((pk wh : Nat) : Int) = 3) :
    Calls Tryz.prog 34 #[.pointer (some ⟨r, 0, none⟩), .agg #[.int .i64 wh, x1, .int .i64 mo, x3, x4, x5, x6, x7, x8, x9, x10]] w (TkQ r (takeR (rowR mo) s) ({ td0 with S := str (okR (rowR mo) s (rowV mo s) []) }) w) := by
  have hrw := h.lt
  have HH := hide h
  have HB : Hid (Bk w ((w.alloc (.cells #[.int .i64 wh, x1, .int .i64 mo, x3, x4, x5, x6, x7, x8, x9, x10] 74)).alloc (.cells z7 77)) w.heap.size (w.heap.size + 1) #[.int .i64 wh, x1, .int .i64 mo, x3, x4, x5, x6, x7, x8, x9, x10]) := ⟨Nat.le_refl _, by omega, (Keep.alloc (fun _ => False) _ _).blk (heap_alloc_new w _) fun f => f, by have := heap_alloc_new (w.alloc (.cells #[.int .i64 wh, x1, .int .i64 mo, x3, x4, x5, x6, x7, x8, x9, x10] 74)) (.cells z7 77); simpa using this⟩
  have HK : Hid (Below w.heap.size w ((w.alloc (.cells #[.int .i64 wh, x1, .int .i64 mo, x3, x4, x5, x6, x7, x8, x9, x10] 74)).alloc (.cells z7 77))) := ((Below.refl _ _).alloc (Nat.le_refl _) _).alloc (by simp) _
  have HR := hide (h.below HK.out)
  have HKr := hide (Keep.ofBelow (S := fun k => k = r) HK.out (Nat.le_refl _))
  obtain ⟨s1, hs1⟩ : ∃ s1, takeR (rowR mo) s = s1 := ⟨_, rfl⟩
  rw [hs1]
  have HS1 := hide hs1
  clear h hs1
  go_enter Tryz.func34, Tryz.ntmps34
  go_upto_region 1 with fail
  change Code.wp _ _ _ _ ((w.alloc (.cells #[.int .i64 wh, x1, .int .i64 mo, x3, x4, x5, x6, x7, x8, x9, x10] 74)).alloc (.cells z7 77))
  generalize (w.alloc (.cells #[.int .i64 wh, x1, .int .i64 mo, x3, x4, x5, x6, x7, x8, x9, x10] 74)).alloc (.cells z7 77) = W at *
  generalize hg : w.heap.size = g at *
  have HG := hide hg
  clear hg
  obtain ⟨y0, _⟩ := cells11 HB.out.st
  go_wp2_with fail
  refine (pick_any wh h1 h2 _).mono ?_
  rintro e w1 ⟨rfl, rfl⟩
  rw [hk]
  clear y0
  obtain ⟨_, _, y2, _, _, _, _, _, _, _, _⟩ := cells11 HB.out.st
  have HI7 : Hid ((Tryz.prog.info? 77).map (·.size) = some (#[.int .i64 0, .int .u64 0, .bool false, .string (str (okR (rowR mo) s (rowV mo s) [])), .slice none 0 0, .slice none 0 0, .slice none 0 0] : Array Value).size) := by show _ = _; rw [info_told]; rfl
  have HO7 : Hid ((#[.int .i64 0, .int .u64 0, .bool false, .string (str (okR (rowR mo) s (rowV mo s) [])), .slice none 0 0, .slice none 0 0, .slice none 0 0] : Array Value).all (·.oneCell') = true) := by show _ = _; simp [Value.oneCell']
  go_wp2_with (first
    | (go_at_call 71; refine (RTextZ r mo s _ HR.out).mono ?_; rintro e w9 ⟨rfl, hr9, hk9⟩; rw [HS1.out] at hr9; have HR9 := hide hr9; have HK9 := hide (HKr.out.more hk9); have HBk := hide (HB.out.keep hk9 (by have := HG.out; omega)); have HTG := hide HBk.out.td; clear hr9 hk9)
    | (refine wpList_store_row rfl 77 _ _ rfl (g + 1) #[.int .i64 0, .int .u64 0, .bool false, .string (str (okR (rowR mo) s (rowV mo s) [])), .slice none 0 0, .slice none 0 0, .slice none 0 0] rfl rfl 77 _ HTG.out HI7.out rfl HO7.out ?_))
  have HF := hide (setRow_heap _ (g + 1) _ #[.int .i64 0, .int .u64 0, .bool false, .string (str (okR (rowR mo) s (rowV mo s) [])), .slice none 0 0, .slice none 0 0, .slice none 0 0] _ _ HTG.out)
  have HE := hide (HBk.out.doneQ (t := { td0 with S := str (okR (rowR mo) s (rowV mo s) []) }) HR9.out (by have := HG.out; omega) HK9.out (keep_row _ (g + 1) #[.int .i64 0, .int .u64 0, .bool false, .string (str (okR (rowR mo) s (rowV mo s) [])), .slice none 0 0, .slice none 0 0, .slice none 0 0]) (cT := 0) (cL := 0) (cD := 0) (els0 _) (els0 _) (rows0 _))
  exact bodyPost_ret (res7 rfl _ _ (g + 1) (.int .i64 0) (.int .u64 0) (.bool false) (.string (str (okR (rowR mo) s (rowV mo s) []))) (.slice none 0 0) (.slice none 0 0) (.slice none 0 0) rfl HF.out) rfl HE.out
set_option maxRecDepth 100000 in
set_option maxHeartbeats 4000000 in
theorem taken_blob (r : Nat) (s : K.RS) (wh : Int) (mo : Int) (x1 x3 x4 x5 x6 x7 x8 x9 x10 : Value) (w : World) (h : Qr w r s) (h1 : -9223372036854775808 ≤ wh) (h2 : wh ≤ 9223372036854775807) (hk : ((pk wh : Nat) : Int) = 4) :
    Calls Tryz.prog 34 #[.pointer (some ⟨r, 0, none⟩), .agg #[.int .i64 wh, x1, .int .i64 mo, x3, x4, x5, x6, x7, x8, x9, x10]] w (TkQ r (takeR (rowR mo) s) ({ td0 with S := str (okR (rowR mo) s (rowV mo s) []) }) w) := by
  have hrw := h.lt
  have HH := hide h
  have HB : Hid (Bk w ((w.alloc (.cells #[.int .i64 wh, x1, .int .i64 mo, x3, x4, x5, x6, x7, x8, x9, x10] 74)).alloc (.cells z7 77)) w.heap.size (w.heap.size + 1) #[.int .i64 wh, x1, .int .i64 mo, x3, x4, x5, x6, x7, x8, x9, x10]) := ⟨Nat.le_refl _, by omega, (Keep.alloc (fun _ => False) _ _).blk (heap_alloc_new w _) fun f => f, by have := heap_alloc_new (w.alloc (.cells #[.int .i64 wh, x1, .int .i64 mo, x3, x4, x5, x6, x7, x8, x9, x10] 74)) (.cells z7 77); simpa using this⟩
  have HK : Hid (Below w.heap.size w ((w.alloc (.cells #[.int .i64 wh, x1, .int .i64 mo, x3, x4, x5, x6, x7, x8, x9, x10] 74)).alloc (.cells z7 77))) := ((Below.refl _ _).alloc (Nat.le_refl _) _).alloc (by simp) _
  have HR := hide (h.below HK.out)
  have HKr := hide (Keep.ofBelow (S := fun k => k = r) HK.out (Nat.le_refl _))
  obtain ⟨s1, hs1⟩ : ∃ s1, takeR (rowR mo) s = s1 := ⟨_, rfl⟩
  rw [hs1]
  have HS1 := hide hs1
  clear h hs1
  go_enter Tryz.func34, Tryz.ntmps34
  go_upto_region 1 with fail
  change Code.wp _ _ _ _ ((w.alloc (.cells #[.int .i64 wh, x1, .int .i64 mo, x3, x4, x5, x6, x7, x8, x9, x10] 74)).alloc (.cells z7 77))
  generalize (w.alloc (.cells #[.int .i64 wh, x1, .int .i64 mo, x3, x4, x5, x6, x7, x8, x9, x10] 74)).alloc (.cells z7 77) = W at *
  generalize hg : w.heap.size = g at *
  have HG := hide hg
  clear hg
  obtain ⟨y0, _⟩ := cells11 HB.out.st
  go_wp2_with fail
  refine (pick_any wh h1 h2 _).mono ?_
  rintro e w1 ⟨rfl, rfl⟩
  rw [hk]
  clear y0
  obtain ⟨_, _, y2, _, _, _, _, _, _, _, _⟩ := cells11 HB.out.st
  have HI7 : Hid ((Tryz.prog.info? 77).map (·.size) = some (#[.int .i64 0, .int .u64 0, .bool false, .string (str (okR (rowR mo) s (rowV mo s) [])), .slice none 0 0, .slice none 0 0, .slice none 0 0] : Array Value).size) := by show _ = _; rw [info_told]; rfl
  have HO7 : Hid ((#[.int .i64 0, .int .u64 0, .bool false, .string (str (okR (rowR mo) s (rowV mo s) [])), .slice none 0 0, .slice none 0 0, .slice none 0 0] : Array Value).all (·.oneCell') = true) := by show _ = _; simp [Value.oneCell']
  go_wp2_with (first
    | (go_at_call 99; refine (RBlobZ r mo s _ HR.out).mono ?_; rintro e w9 ⟨a9, n9, c9, rfl, hrd9, hr9, hk9⟩; have hcv := conv_rd hrd9 c9; clear hrd9; rw [HS1.out] at hr9; have HR9 := hide hr9; have HK9 := hide (HKr.out.more hk9); have HBk := hide (HB.out.keep hk9 (by have := HG.out; omega)); have HTG := hide HBk.out.td; clear hr9 hk9)
    | (refine wpList_store_row rfl 77 _ _ rfl (g + 1) #[.int .i64 0, .int .u64 0, .bool false, .string (str (okR (rowR mo) s (rowV mo s) [])), .slice none 0 0, .slice none 0 0, .slice none 0 0] rfl rfl 77 _ HTG.out HI7.out rfl HO7.out ?_))
  have HF := hide (setRow_heap _ (g + 1) _ #[.int .i64 0, .int .u64 0, .bool false, .string (str (okR (rowR mo) s (rowV mo s) [])), .slice none 0 0, .slice none 0 0, .slice none 0 0] _ _ HTG.out)
  have HE := hide (HBk.out.doneQ (t := { td0 with S := str (okR (rowR mo) s (rowV mo s) []) }) HR9.out (by have := HG.out; omega) HK9.out (keep_row _ (g + 1) #[.int .i64 0, .int .u64 0, .bool false, .string (str (okR (rowR mo) s (rowV mo s) [])), .slice none 0 0, .slice none 0 0, .slice none 0 0]) (cT := 0) (cL := 0) (cD := 0) (els0 _) (els0 _) (rows0 _))
  exact bodyPost_ret (res7 rfl _ _ (g + 1) (.int .i64 0) (.int .u64 0) (.bool false) (.string (str (okR (rowR mo) s (rowV mo s) []))) (.slice none 0 0) (.slice none 0 0) (.slice none 0 0) rfl HF.out) rfl HE.out
set_option maxRecDepth 100000 in
set_option maxHeartbeats 4000000 in
theorem taken_ints (r : Nat) (s : K.RS) (wh : Int) (le mo : Int) (x3 x4 x5 x6 x7 x8 x9 x10 : Value) (w : World) (h : Qr w r s) (h1 : -9223372036854775808 ≤ wh) (h2 : wh ≤ 9223372036854775807) (hk : ((pk wh : Nat) : Int) = 5) :
    Calls Tryz.prog 34 #[.pointer (some ⟨r, 0, none⟩), .agg #[.int .i64 wh, .int .i64 le, .int .i64 mo, x3, x4, x5, x6, x7, x8, x9, x10]] w (TkQ r (takeR (listR (min mo 16777216) (numR le 9223372036854775807)) s) ({ td0 with L := lvI (min mo 16777216) le 9223372036854775807 s }) w) := by
  have hrw := h.lt
  have HH := hide h
  have HB : Hid (Bk w ((w.alloc (.cells #[.int .i64 wh, .int .i64 le, .int .i64 mo, x3, x4, x5, x6, x7, x8, x9, x10] 74)).alloc (.cells z7 77)) w.heap.size (w.heap.size + 1) #[.int .i64 wh, .int .i64 le, .int .i64 mo, x3, x4, x5, x6, x7, x8, x9, x10]) := ⟨Nat.le_refl _, by omega, (Keep.alloc (fun _ => False) _ _).blk (heap_alloc_new w _) fun f => f, by have := heap_alloc_new (w.alloc (.cells #[.int .i64 wh, .int .i64 le, .int .i64 mo, x3, x4, x5, x6, x7, x8, x9, x10] 74)) (.cells z7 77); simpa using this⟩
  have HK : Hid (Below w.heap.size w ((w.alloc (.cells #[.int .i64 wh, .int .i64 le, .int .i64 mo, x3, x4, x5, x6, x7, x8, x9, x10] 74)).alloc (.cells z7 77))) := ((Below.refl _ _).alloc (Nat.le_refl _) _).alloc (by simp) _
  have HR := hide (h.below HK.out)
  have HKr := hide (Keep.ofBelow (S := fun k => k = r) HK.out (Nat.le_refl _))
  obtain ⟨s1, hs1⟩ : ∃ s1, takeR (listR (min mo 16777216) (numR le 9223372036854775807)) s = s1 := ⟨_, rfl⟩
  rw [hs1]
  have HS1 := hide hs1
  clear h hs1
  go_enter Tryz.func34, Tryz.ntmps34
  go_upto_region 1 with fail
  change Code.wp _ _ _ _ ((w.alloc (.cells #[.int .i64 wh, .int .i64 le, .int .i64 mo, x3, x4, x5, x6, x7, x8, x9, x10] 74)).alloc (.cells z7 77))
  generalize (w.alloc (.cells #[.int .i64 wh, .int .i64 le, .int .i64 mo, x3, x4, x5, x6, x7, x8, x9, x10] 74)).alloc (.cells z7 77) = W at *
  generalize hg : w.heap.size = g at *
  have HG := hide hg
  clear hg
  obtain ⟨y0, _⟩ := cells11 HB.out.st
  go_wp2_with fail
  refine (pick_any wh h1 h2 _).mono ?_
  rintro e w1 ⟨rfl, rfl⟩
  rw [hk]
  clear y0
  obtain ⟨_, y1, y2, _, _, _, _, _, _, _, _⟩ := cells11 HB.out.st
  have HI7 : Hid (∀ (a9 : Option Addr) (n9 c9 : Nat), (Tryz.prog.info? 77).map (·.size) = some (#[.int .i64 0, .int .u64 0, .bool false, .string ⟨#[]⟩, .slice none 0 0, .slice a9 n9 c9, .slice none 0 0] : Array Value).size) := fun _ _ _ => by rw [info_told]; rfl
  have HO7 : Hid (∀ (a9 : Option Addr) (n9 c9 : Nat), (#[.int .i64 0, .int .u64 0, .bool false, .string ⟨#[]⟩, .slice none 0 0, .slice a9 n9 c9, .slice none 0 0] : Array Value).all (·.oneCell') = true) := fun _ _ _ => by simp [Value.oneCell']
  go_wp2_with (first
    | (go_at_call 100; refine (numbers_any r mo le 9223372036854775807 s _ HR.out).mono ?_; rintro e w9 ⟨a9, n9, c9, rfl, he9, hr9, hk9⟩; have HE9 := hide (els_ti_nr he9); clear he9; rw [HS1.out] at hr9; have HR9 := hide hr9; have HK9 := hide (HKr.out.more hk9); have HBk := hide (HB.out.keep hk9 (by have := HG.out; omega)); have HTG := hide HBk.out.td; clear hr9 hk9)
    | (refine wpList_store_row rfl 77 _ _ rfl (g + 1) #[.int .i64 0, .int .u64 0, .bool false, .string ⟨#[]⟩, .slice none 0 0, .slice a9 n9 c9, .slice none 0 0] rfl rfl 77 _ HTG.out (HI7.out _ _ _) rfl (HO7.out _ _ _) ?_))
  have HF := hide (setRow_heap _ (g + 1) _ #[.int .i64 0, .int .u64 0, .bool false, .string ⟨#[]⟩, .slice none 0 0, .slice a9 n9 c9, .slice none 0 0] _ _ HTG.out)
  have HE := hide (HBk.out.doneQ (t := { td0 with L := lvI (min mo 16777216) le 9223372036854775807 s }) HR9.out (by have := HG.out; omega) HK9.out (keep_row _ (g + 1) #[.int .i64 0, .int .u64 0, .bool false, .string ⟨#[]⟩, .slice none 0 0, .slice a9 n9 c9, .slice none 0 0]) (cT := 0) (cL := c9) (cD := 0) (els0 _) HE9.out (rows0 _))
  exact bodyPost_ret (res7 rfl _ _ (g + 1) (.int .i64 0) (.int .u64 0) (.bool false) (.string ⟨#[]⟩) (.slice none 0 0) (.slice a9 n9 c9) (.slice none 0 0) rfl HF.out) rfl HE.out
set_option maxRecDepth 100000 in
set_option maxHeartbeats 4000000 in
theorem taken_fail (r : Nat) (s : K.RS) (wh : Int)  (x1 x2 x3 x4 x5 x6 x7 x8 x9 x10 : Value) (w : World) (h : Qr w r s) (h1 : -9223372036854775808 ≤ wh) (h2 : wh ≤ 9223372036854775807) (hk : ((pk wh : Nat) : Int) = 9) :
    Calls Tryz.prog 34 #[.pointer (some ⟨r, 0, none⟩), .agg #[.int .i64 wh, x1, x2, x3, x4, x5, x6, x7, x8, x9, x10]] w (TkQ r (s.fail 22) (td0) w) := by
  have hrw := h.lt
  have HH := hide h
  have HB : Hid (Bk w ((w.alloc (.cells #[.int .i64 wh, x1, x2, x3, x4, x5, x6, x7, x8, x9, x10] 74)).alloc (.cells z7 77)) w.heap.size (w.heap.size + 1) #[.int .i64 wh, x1, x2, x3, x4, x5, x6, x7, x8, x9, x10]) := ⟨Nat.le_refl _, by omega, (Keep.alloc (fun _ => False) _ _).blk (heap_alloc_new w _) fun f => f, by have := heap_alloc_new (w.alloc (.cells #[.int .i64 wh, x1, x2, x3, x4, x5, x6, x7, x8, x9, x10] 74)) (.cells z7 77); simpa using this⟩
  have HK : Hid (Below w.heap.size w ((w.alloc (.cells #[.int .i64 wh, x1, x2, x3, x4, x5, x6, x7, x8, x9, x10] 74)).alloc (.cells z7 77))) := ((Below.refl _ _).alloc (Nat.le_refl _) _).alloc (by simp) _
  have HR := hide (h.below HK.out)
  have HKr := hide (Keep.ofBelow (S := fun k => k = r) HK.out (Nat.le_refl _))
  obtain ⟨s1, hs1⟩ : ∃ s1, s.fail 22 = s1 := ⟨_, rfl⟩
  rw [hs1]
  have HS1 := hide hs1
  clear h hs1
  go_enter Tryz.func34, Tryz.ntmps34
  go_upto_region 1 with fail
  change Code.wp _ _ _ _ ((w.alloc (.cells #[.int .i64 wh, x1, x2, x3, x4, x5, x6, x7, x8, x9, x10] 74)).alloc (.cells z7 77))
  generalize (w.alloc (.cells #[.int .i64 wh, x1, x2, x3, x4, x5, x6, x7, x8, x9, x10] 74)).alloc (.cells z7 77) = W at *
  generalize hg : w.heap.size = g at *
  have HG := hide hg
  clear hg
  obtain ⟨y0, _⟩ := cells11 HB.out.st
  go_wp2_with fail
  refine (pick_any wh h1 h2 _).mono ?_
  rintro e w1 ⟨rfl, rfl⟩
  rw [hk]
  clear y0
  have HI7 : Hid ((Tryz.prog.info? 77).map (·.size) = some (#[.int .i64 0, .int .u64 0, .bool false, .string ⟨#[]⟩, .slice none 0 0, .slice none 0 0, .slice none 0 0] : Array Value).size) := by show _ = _; rw [info_told]; rfl
  have HO7 : Hid ((#[.int .i64 0, .int .u64 0, .bool false, .string ⟨#[]⟩, .slice none 0 0, .slice none 0 0, .slice none 0 0] : Array Value).all (·.oneCell') = true) := by show _ = _; simp [Value.oneCell']
  go_wp2_with fail
  refine (wrong_any r s 22 _ HR.out).mono ?_
  rintro e w9 ⟨rfl, hr9, hk9⟩
  rw [HS1.out] at hr9
  have HR9 := hide hr9
  have HK9 := hide (HKr.out.more hk9)
  have HBk := hide (HB.out.keep hk9 (by have := HG.out; omega))
  have HTG := hide HBk.out.td
  clear hr9 hk9
  go_wp2_with (refine wpList_store_row rfl 77 _ _ rfl (g + 1) #[.int .i64 0, .int .u64 0, .bool false, .string ⟨#[]⟩, .slice none 0 0, .slice none 0 0, .slice none 0 0] rfl rfl 77 _ HTG.out HI7.out rfl HO7.out ?_)
  have HF := hide (setRow_heap _ (g + 1) _ #[.int .i64 0, .int .u64 0, .bool false, .string ⟨#[]⟩, .slice none 0 0, .slice none 0 0, .slice none 0 0] _ _ HTG.out)
  have HE := hide (HBk.out.doneQ (t := td0) HR9.out (by have := HG.out; omega) HK9.out (keep_row _ (g + 1) #[.int .i64 0, .int .u64 0, .bool false, .string ⟨#[]⟩, .slice none 0 0, .slice none 0 0, .slice none 0 0]) (cT := 0) (cL := 0) (cD := 0) (els0 _) (els0 _) (rows0 _))
  exact bodyPost_ret (res7 rfl _ _ (g + 1) (.int .i64 0) (.int .u64 0) (.bool false) (.string ⟨#[]⟩) (.slice none 0 0) (.slice none 0 0) (.slice none 0 0) rfl HF.out) rfl HE.out
set_option maxRecDepth 100000 in
set_option maxHeartbeats 4000000 in
theorem taken_look (r : Nat) (s : K.RS) (wh : Int)  (x1 x2 x3 x4 x5 x6 x7 x8 x9 x10 : Value) (w : World) (h : Qr w r s) (h1 : -9223372036854775808 ≤ wh) (h2 : wh ≤ 9223372036854775807) (hk : ((pk wh : Nat) : Int) = 10) :
    Calls Tryz.prog 34 #[.pointer (some ⟨r, 0, none⟩), .agg #[.int .i64 wh, x1, x2, x3, x4, x5, x6, x7, x8, x9, x10]] w (TkQ r (s) (td0) w) := by
  have hrw := h.lt
  have HH := hide h
  have HB : Hid (Bk w ((w.alloc (.cells #[.int .i64 wh, x1, x2, x3, x4, x5, x6, x7, x8, x9, x10] 74)).alloc (.cells z7 77)) w.heap.size (w.heap.size + 1) #[.int .i64 wh, x1, x2, x3, x4, x5, x6, x7, x8, x9, x10]) := ⟨Nat.le_refl _, by omega, (Keep.alloc (fun _ => False) _ _).blk (heap_alloc_new w _) fun f => f, by have := heap_alloc_new (w.alloc (.cells #[.int .i64 wh, x1, x2, x3, x4, x5, x6, x7, x8, x9, x10] 74)) (.cells z7 77); simpa using this⟩
  have HK : Hid (Below w.heap.size w ((w.alloc (.cells #[.int .i64 wh, x1, x2, x3, x4, x5, x6, x7, x8, x9, x10] 74)).alloc (.cells z7 77))) := ((Below.refl _ _).alloc (Nat.le_refl _) _).alloc (by simp) _
  have HR := hide (h.below HK.out)
  have HKr := hide (Keep.ofBelow (S := fun k => k = r) HK.out (Nat.le_refl _))
  obtain ⟨s1, hs1⟩ : ∃ s1, s = s1 := ⟨_, rfl⟩
  rw [hs1]
  have HS1 := hide hs1
  clear h hs1
  go_enter Tryz.func34, Tryz.ntmps34
  go_upto_region 1 with fail
  change Code.wp _ _ _ _ ((w.alloc (.cells #[.int .i64 wh, x1, x2, x3, x4, x5, x6, x7, x8, x9, x10] 74)).alloc (.cells z7 77))
  generalize (w.alloc (.cells #[.int .i64 wh, x1, x2, x3, x4, x5, x6, x7, x8, x9, x10] 74)).alloc (.cells z7 77) = W at *
  generalize hg : w.heap.size = g at *
  have HG := hide hg
  clear hg
  obtain ⟨y0, _⟩ := cells11 HB.out.st
  go_wp2_with fail
  refine (pick_any wh h1 h2 _).mono ?_
  rintro e w1 ⟨rfl, rfl⟩
  rw [hk]
  clear y0
  have HI7 : Hid ((Tryz.prog.info? 77).map (·.size) = some (#[.int .i64 0, .int .u64 0, .bool false, .string ⟨#[]⟩, .slice none 0 0, .slice none 0 0, .slice none 0 0] : Array Value).size) := by show _ = _; rw [info_told]; rfl
  have HO7 : Hid ((#[.int .i64 0, .int .u64 0, .bool false, .string ⟨#[]⟩, .slice none 0 0, .slice none 0 0, .slice none 0 0] : Array Value).all (·.oneCell') = true) := by show _ = _; simp [Value.oneCell']
  have HR9 := hide HR.out
  rw [HS1.out] at HR9
  have HK9 := hide HKr.out
  have HBk := hide HB.out
  have HTG := hide HBk.out.td
  go_wp2_with (refine wpList_store_row rfl 77 _ _ rfl (g + 1) #[.int .i64 0, .int .u64 0, .bool false, .string ⟨#[]⟩, .slice none 0 0, .slice none 0 0, .slice none 0 0] rfl rfl 77 _ HTG.out HI7.out rfl HO7.out ?_)
  have HF := hide (setRow_heap _ (g + 1) _ #[.int .i64 0, .int .u64 0, .bool false, .string ⟨#[]⟩, .slice none 0 0, .slice none 0 0, .slice none 0 0] _ _ HTG.out)
  have HE := hide (HBk.out.doneQ (t := td0) HR9.out (by have := HG.out; omega) HK9.out (keep_row _ (g + 1) #[.int .i64 0, .int .u64 0, .bool false, .string ⟨#[]⟩, .slice none 0 0, .slice none 0 0, .slice none 0 0]) (cT := 0) (cL := 0) (cD := 0) (els0 _) (els0 _) (rows0 _))
  exact bodyPost_ret (res7 rfl _ _ (g + 1) (.int .i64 0) (.int .u64 0) (.bool false) (.string ⟨#[]⟩) (.slice none 0 0) (.slice none 0 0) (.slice none 0 0) rfl HF.out) rfl HE.out
end Wm
end Go.Proofs.YtoelgcagahmndaaGreat

/- The law's taken: a list that grows in what is told. -/
namespace Go.Proofs.YtoelgcagahmndaaGreat
namespace Wm
open Go.RowKit Go.Deep

def u7 (f : Nat) (v : Value) : Array Value := z7.setIfInBounds f v
theorem u7_set (f : Nat) (v v' : Value) : (u7 f v).setIfInBounds f v' = u7 f v' := by
  unfold u7; simp
theorem u7_at {f : Nat} (hf : f < 7) (v : Value) : (u7 f v)[f]? = some v := by
  unfold u7
  rw [Array.getElem?_setIfInBounds_self_of_lt (by exact hf)]
theorem append_one {t e : TypeId} {zv : Value} {nb : Nat} (ht : Tryz.prog.underlying t = some (.slice e)) (hinfo : (Tryz.prog.info? e).map (fun i => (i.zero, i.size, i.bytes)) = some (some zv, 1, nb)) (hzs : zv.cells.size = 1) (hnb : nb ≤ 24) {w : World} {b : Nat} {v : Value} {n : Nat} {xs : List Value} (h : w.ownsRow b e 1 v n xs) (hb : b ≤ w.heap.size) (hl : n ≤ 16777216) {B : Nat} {y : Value} (hy : y.oneCell' = true) (hB : w.cell? ⟨B, 0, none⟩ = some y) (ty : TypeId) :
    ∃ a c w', (Builtin.append_ #[t, t] ty #[v, .slice (some ⟨B, 0, none⟩) 1 1]).run Tryz.prog w = .ok (.slice a (n + 1) c) w' ∧ w'.ownsRow b e 1 (.slice a (n + 1) c) (n + 1) (xs ++ [y]) ∧ w.grownBy w' v.ownBlock := by
  obtain ⟨i0, hi, hz0, hz1, hz2⟩ := info_parts hinfo
  have hbytes : (n + 1) * nb ≤ 140737488355328 := by
    have : (n + 1) * nb ≤ 16777217 * 24 := Nat.mul_le_mul (by omega) hnb
    omega
  obtain ⟨v', w', h1, h2, h3, _⟩ := run_append_own_at (P := Tryz.prog) w b t ty e i0 zv 1 nb ht hi hz0 hz1 hz2 hzs (by decide) v n xs h ⟨B, 0, none⟩ 1 1 [y] rfl (fun j u hu => by
      cases j with
      | zero =>
        have : u = y := by simpa using hu.symm
        subst this
        simpa [Addr.add] using hB
      | succ j => simp at hu) (fun u hu => by rw [List.mem_singleton.1 hu]; exact hy) (by unfold maxLen; omega) hbytes hb
  obtain ⟨a, c, e⟩ := ownsRow_shape h2
  subst e
  exact ⟨a, c, w', h1, h2, h3⟩
/-- the loop's state -/
structure LpQ (W wr : World) (q : Nat) (s : K.RS) (f : Nat) (T : TypeId) (a : Option Addr) (k c : Nat) (vs : List Value) : Prop where
  td : wr.heap[W.heap.size]? = some (.cells (u7 f (.slice a k c)) 77 (0, 0))
  row : wr.ownsRow W.heap.size T 1 (.slice a k c) k vs
  qr : Qr wr q s
  kp : Keep (fun k => k = q) W wr
  lt : q < W.heap.size
theorem row_offT {w : World} {b : Nat} {T : TypeId} {v : Value} {n : Nat} {l : List Value} (h : w.ownsRow b T 1 v n l) {A : Nat} {cs : Array Value} {t : TypeId} (hA : w.heap[A]? = some (.cells cs t (0, 0))) (ht : t ≠ T) : v.ownBlock ≠ some A := by
  intro e
  rcases h.2 with ⟨rfl, _⟩ | ⟨g, cap, cur, rfl, _, hg, _⟩
  · cases e
  · have e' : g = A := by simpa [Value.ownBlock] using e
    subst e'
    rw [hg] at hA
    injection hA with hA
    injection hA with _ hA _
    exact ht hA.symm
section
variable {W wr w' : World} {q : Nat} {s s' : K.RS} {f : Nat} {T : TypeId} {a : Option Addr} {k c : Nat} {vs : List Value}
theorem LpQ.begin {w0 : World} (h : Qr w0 q s) : LpQ w0 (w0.alloc (.cells z7 77)) q s f T none 0 0 [] ↔ (u7 f (.slice none 0 0) = z7) := by
  constructor
  · intro h1
    have := h1.td
    rw [heap_alloc_new] at this
    injection this with this
    injection this with this
    exact this.symm
  · intro e
    exact ⟨by rw [e]; exact heap_alloc_new w0 _, World.ownsRow_nil _ _ _ _, h.below ((Below.refl _ _).alloc (Nat.le_refl _) _), Keep.alloc _ _ _, h.lt⟩
theorem LpQ.take (h : LpQ W wr q s f T a k c vs) (hq : Qr w' q s') (hk : Keep (fun k => k = q) wr w') : LpQ W w' q s' f T a k c vs := by
  have hlt := h.lt
  refine ⟨hk.blk h.td (fun e => by have : W.heap.size = q := e; omega), ?_, hq, h.kp.more hk, h.lt⟩
  refine ⟨h.row.1, ?_⟩
  rcases h.row.2 with h' | ⟨g, cap, cur, e1, e2, e3, e4⟩
  · exact .inl h'
  · exact .inr ⟨g, cap, cur, e1, e2, hk.blk e3 (fun e => by have : g = q := e; omega), e4⟩
theorem LpQ.step {w4 : World} {a4 : Option Addr} {c4 : Nat} {y : Value} {o : Obj} (h : LpQ W wr q s f T a k c vs) (hT : 77 ≠ T) (hr : w4.ownsRow W.heap.size T 1 (.slice a4 (k + 1) c4) (k + 1) (vs ++ [y])) (hg : (wr.alloc o).grownBy w4 (Value.slice a k c).ownBlock) :
    LpQ W (w4.setCell ⟨W.heap.size, f, none⟩ (.slice a4 (k + 1) c4)) q s f T a4 (k + 1) c4 (vs ++ [y]) ∧ w4.heap[W.heap.size]? = some (.cells (u7 f (.slice a k c)) 77 (0, 0)) ∧ Keep (fun j => j = q) W w4 := by
  have hlt := h.lt
  have hsz := h.kp.size
  have hal : (wr.alloc o).heap[W.heap.size]? = some (.cells (u7 f (.slice a k c)) 77 (0, 0)) := (Keep.alloc (fun _ => False) wr o).blk h.td fun f => f
  have hk4 : Keep (fun j => (Value.slice a k c).ownBlock = some j) (wr.alloc o) w4 := Keep.grown hg fun _ e => e
  have hge : ∀ j, (Value.slice a k c).ownBlock = some j → W.heap.size ≤ j := fun j e => (h.row.lt j e).1
  have h4 : w4.heap[W.heap.size]? = some (.cells (u7 f (.slice a k c)) 77 (0, 0)) := hk4.blk hal (fun e => row_offT h.row h.td hT e)
  have kW : Keep (fun j => j = q) W w4 := (h.kp.more (Keep.alloc (fun j => j = q) wr o)).trans hk4 fun i e => .inr (hge i e)
  have hc := keep_cell w4 W.heap.size f (.slice a4 (k + 1) c4)
  have hq4 : Qr w4 q s := (h.qr.below ((Below.refl _ _).alloc (Nat.le_refl _) o)).stay hk4 fun j hj e => by have := hge j e; omega
  refine ⟨⟨by rw [set_blk h4 f, u7_set], ?_, hq4.stay hc (fun j hj e => by have : j = W.heap.size := e; omega), kW.trans hc fun i e => .inr (by have : i = W.heap.size := e; omega), h.lt⟩, h4, kW⟩
  refine ⟨hr.1, ?_⟩
  rcases hr.2 with h' | ⟨g, cap, cur, e1, e2, e3, e4⟩
  · exact .inl h'
  · refine .inr ⟨g, cap, cur, e1, e2, hc.blk e3 (fun e => ?_), e4⟩
    exact row_offT hr h4 hT (by rw [e1]; show some g = some W.heap.size; rw [show g = W.heap.size from e])
end
theorem row_nrT {w : World} {b : Nat} {T : TypeId} {a : Option Addr} {n c : Nat} {xs : List Value} (h : w.ownsRow b T 1 (.slice a n c) n xs) (h1 : T ∉ rdT) (hn : n ≤ 140737488351232) : Els (NR w) w a n xs := by
  obtain ⟨a', c', e, he⟩ := row_nr h h1 hn
  injection e with e1 _ _
  subst e1
  exact he
end Wm
end Go.Proofs.YtoelgcagahmndaaGreat
