import Derived.Test.YtbjcckfhfbjchaaGreatCGu
import Derived.BigQuiet
import Derived.Deep.Cut
import Derived.Deep.CutRange
import Derived.Deep.CutBlock
import Derived.Deep.RegionHeld3
/- Codec: begins (written by cgx_gen.py). -/
namespace Go.Proofs.YtbjcckfhfbjchaaGreat
namespace Cd
open Go.RowKit Go.Deep

def Behind (W : World) : Type := { x : World // Below W.heap.size W x }
theorem behindNE (W : World) : Nonempty (Behind W) := ⟨⟨W, Below.refl _ _⟩⟩
theorem quiet_behind {id : Nat} {Q : Exit → Act → World → Prop} {a : Act} {W : World} {l : List Oper} (hm : Tryz.prog.follows .mixedOrders = true) (hB : Region.lexB .any l.toArray = true)
    (h : wpQuiet Tryz.prog l.toArray (fun w' => ∃ u : Behind W, w' = u.1) (fun a' => ∀ w', (∃ u : Behind W, w' = u.1) → Q .normal a' w') l a) : (Code.region id l.toArray true).wp Tryz.prog Q a W :=
  wp_region_quiet (C := fun w' => ∃ u : Behind W, w' = u.1) hm hB ⟨⟨_, (⟨rfl, rfl, rfl, Nat.le_refl _, fun _ _ => rfl⟩ : Below W.heap.size W W.drew)⟩, rfl⟩ (by simpa using h)
theorem calls_behind {f : FuncId} {args : Array Value} {W : World} (u : Behind W) {v : Value}
    (h : Calls Tryz.prog f args u.1 fun e w' => e = .returned v ∧ Below u.1.heap.size u.1 w') : Calls Tryz.prog f args u.1 fun e w'' => e = .returned v ∧ ∃ u' : Behind W, w'' = u'.1 :=
  h.mono fun _ _ ⟨he, hb⟩ => ⟨he, ⟨_, u.2.trans (hb.mono u.2.size)⟩, rfl⟩
theorem Behind.cell {W : World} (u : Behind W) {p : Addr} {v : Value} (h : W.cell? p = some v) : u.1.cell? p = some v := (u.2.cell (World.block_lt_of_cell? _ _ h)).trans h
set_option maxRecDepth 10000 in
set_option maxHeartbeats 2000000 in
theorem begins_no (a : Option Addr) (n c : Nat) (l : List Nat) (a' : Option Addr) (n' c' : Nat) (l' : List Nat) (w : World) (h : Rd w a n l) (h' : Rd w a' n' l') (hc : n' ≤ c') (hno : ∀ t, l' ≠ l ++ t) :
    Calls Tryz.prog 18 #[.slice a n c, .slice a' n' c'] w fun e w' => e = .returned (.bool false) ∧ Below w.heap.size w w' := by
  haveI := behindNE w
  by_cases hn : n ≤ n'
  · have hne : ¬ str l = str (l'.take n) := fun e => hno (l'.drop n) (by
      have t := str_inj h.2.2.1 (fun x hx => h'.2.2.1 x (List.mem_of_mem_take hx)) e
      have := (List.take_append_drop n l').symm
      rwa [← t] at this)
    have hb := bytes_ne hne
    have k1 := fun u : Behind w => conv_rd (h.keep u.2) c
    have k2 := fun u : Behind w => conv_rd ((rd_front h' hn).keep u.2) c'
    have hsl := slice_front a' n' n c' (by omega)
    have hd : (n : Int) ≤ (n' : Int) := by omega
    generalize str l = s1 at *
    generalize str (l'.take n) = s2 at *
    clear h h' hno hne hc
    go_enter Tryz.func18, Tryz.ntmps18
    go_wp2_with fail
    refine quiet_behind (by kernel_rfl) (by kernel_rfl) ?_
    repeat (go_big_quiet_step (fail))
    refine wpQuiet_nil ?_
    intro _ hw'
    obtain ⟨⟨w2, hw2⟩, rfl⟩ := hw'
    have HU := hide hw2
    clear hb k1 k2 hsl hd hn hw2
    go_wp2_with fail
    go_ret
    exact ⟨rfl, HU.out⟩
  · have hd : ¬ (n : Int) ≤ (n' : Int) := by omega
    have hd2 : decide (n ≤ n') = false := by simpa using hn
    have hd3 : decide ((n : Int) ≤ (n' : Int)) = false := by simpa using hn
    clear h h' hno hc
    go_enter Tryz.func18, Tryz.ntmps18
    go_wp2_with fail
    refine quiet_behind (by kernel_rfl) (by kernel_rfl) ?_
    repeat (go_big_quiet_step (fail))
    refine wpQuiet_nil ?_
    intro _ hw'
    obtain ⟨⟨w2, hw2⟩, rfl⟩ := hw'
    have HU := hide hw2
    clear hd hd2 hd3 hn hw2
    go_wp2_with fail
    go_ret
    exact ⟨rfl, HU.out⟩
end Cd
end Go.Proofs.YtbjcckfhfbjchaaGreat

/- Codec: what an operation is with one field set; what is refused. -/
namespace Go.Proofs.YtbjcckfhfbjchaaGreat
namespace Cd
open Go.RowKit Go.Deep

/-- an operation in memory, its numbers within bounds, that may be or may not be -/
theorem OvV.inpB {d : Ov} {w : World} {v : Value} (h : OvV d w v) (hk : OvB d) (hki : d.ki ≤ 9223372036854775807) (hlu : d.lu < 18446744073709551616) : ∃ ki nm dl x1 x2 x3 ky la wo tk y1 y2 y3 ru lu ti xs, v = .agg #[.int .i64 ki, .string nm, .int .i64 dl, .slice x1 x2 x3, .string ky, .int .i64 la, .int .i64 wo, .int .i64 tk, .slice y1 y2 y3, .int .i64 ru, .int .u64 lu, .int .i64 ti] ∧
    OpD w.heap.size w ki nm dl x1 x2 x3 ky la wo tk y1 y2 y3 ru lu ti d xs ∧ ki ≤ 9223372036854775807 ∧ Gr.Sz nm xs ∧ POk nm dl xs ∧ opChk nm dl x2 ky la wo tk y2 ru lu ti d xs = opChk (str d.pl.1.1) d.pl.1.2 d.pl.2.length (str d.ky) d.la d.wo d.tk d.ry.length d.ru (d.lu : Int) d.ti d xs := by
  obtain ⟨ki, nm, dl, x1, x2, x3, ky, la, wo, tk, y1, y2, y3, ru, lu, ti, e, ⟨e1, e2, e3, e4, e5, e6, e7, e8, e9, e10⟩, hn, ho⟩ := h
  subst e1 e2 e3 e4 e5 e6 e7 e8 e9 e10
  have hp : PlV d.pl w (.agg #[.string (str d.pl.1.1), .int .i64 d.pl.1.2, .slice x1 x2 x3]) := ⟨x1, x2, x3, rfl, hn⟩
  obtain ⟨a, n, c, xs, ep, h1, h2, h3, h4, h5, h6, h7⟩ := hp.inp hk.pl
  have ep : Value.slice x1 x2 x3 = .slice a n c := by
    injection ep with ep
    have := congrArg (fun z : Array Value => z.toList) ep
    injection this with _ t
    injection t with _ t
    injection t
  injection ep with p1 p2 p3
  subst p1 p2 p3
  obtain ⟨a, c, ev, hr, h0, hlc, hb⟩ := ownsRow_rd ho hk.ry (by have := hk.ryn; omega)
  injection ev with q1 q2 q3
  subst q1 q2 q3
  refine ⟨_, _, _, _, _, _, _, _, _, _, _, _, _, _, _, _, xs, e, ⟨rfl, h4.symm, h1, (sb_str _ hk.ky).symm, by rw [str_size]; have := hk.kyn; omega, ⟨rfl, hk.la⟩, ⟨rfl, hk.wo⟩, ⟨rfl, hk.tk⟩, hr, by have := hk.ryn; omega, h0, fun hn b off e => ?_, ⟨rfl, hk.ru⟩, ⟨rfl, hlu⟩, ⟨rfl, hk.ti⟩⟩, hki, h2, h3, by rw [h6]⟩
  rcases ho.2 with ⟨e1, _⟩ | ⟨g, cap, cur, e1, _, hg, _⟩
  · injection e1 with e1
    rw [e] at e1
    cases e1
  · injection e1 with e1
    rw [e] at e1
    injection e1 with e1
    injection e1 with e1
    rw [e1]
    exact (Array.getElem?_eq_some_iff.1 hg).1
/-- why an operation is refused: no kind, or a field that its kind does not use -/
def No121 (d : Ov) : Prop := prts d.ki = [] ∨ oE (emps (str d.pl.1.1) d.pl.1.2 d.pl.2.length (str d.ky) d.la d.wo d.tk d.ry.length d.ru (d.lu : Int) d.ti) (prts d.ki) = false
theorem no121_chk {d : Ov} (h : No121 d) (xs : List Gr.No) : opChk (str d.pl.1.1) d.pl.1.2 d.pl.2.length (str d.ky) d.la d.wo d.tk d.ry.length d.ru (d.lu : Int) d.ti d xs = 121 := by
  unfold opChk
  rw [if_pos]
  rcases h with h | h
  · exact .inl (by rw [h]; rfl)
  · exact .inr (.inl h)
theorem check_no {d : Ov} {w : World} {v : Value} (h : OvV d w v) (hk : OvB d) (hki : d.ki ≤ 9223372036854775807) (hlu : d.lu < 18446744073709551616) (hn : No121 d) : Calls Tryz.prog 13 #[v] w fun en w' => en = .returned (.int .i64 121) ∧ Below w.heap.size w w' := by
  obtain ⟨ki, nm, dl, x1, x2, x3, ky, la, wo, tk, y1, y2, y3, ru, lu, ti, xs, rfl, hod, hki, hsz, hpo, hck⟩ := h.inpB hk hki hlu
  have := Check_any ki nm dl x1 x2 x3 ky la wo tk y1 y2 y3 ru lu ti d xs w hod hsz
  rw [hck, no121_chk hn] at this
  exact this
theorem opBytes_no {d : Ov} {w : World} {v : Value} (h : OvV d w v) (hk : OvB d) (hki : d.ki ≤ 9223372036854775807) (hlu : d.lu < 18446744073709551616) (hn : No121 d) : Calls Tryz.prog 11 #[v] w fun en w' => ∃ x, en = .returned (.tuple #[x, .int .i64 121]) ∧ (∃ a n c, x = .slice a n c) ∧ Below w.heap.size w w' := by
  obtain ⟨ki, nm, dl, x1, x2, x3, ky, la, wo, tk, y1, y2, y3, ru, lu, ti, xs, rfl, hod, hki, hsz, hpo, hck⟩ := h.inpB hk hki hlu
  have h1 := OpBytes_any ki nm dl x1 x2 x3 ky la wo tk y1 y2 y3 ru lu ti d xs w hod hki hsz (fun _ => hpo)
  have eC : opC 121 d = 121 := rfl
  rw [hck, no121_chk hn, eC] at h1
  refine h1.mono ?_
  rintro e w' ⟨x, rfl, ho, hb, hf⟩
  obtain ⟨a, c, e⟩ := ownsRow_shape ho
  exact ⟨x, rfl, ⟨a, _, c, e⟩, hb⟩
/-- the values that are set -/
def vals (v : Nat) : Ov := { ki := 0, pl := (([112], 100), [litV]), ky := [107], la := ((v % 16 : Nat) : Int), wo := v, tk := v, ry := [v], ru := v, lu := v, ti := v }
theorem lit_pvk : PvK (([112], 100), [litV]) := ⟨by decide, by decide, by decide, by decide, fun e he => by
  rw [List.mem_singleton.1 he]
  exact litV_k⟩
theorem lit_may2 : may (([112], 100), [litV]) = true := by
  have t := lit_may
  rw [lit_V] at t
  exact t
theorem set_b {d : Ov} (hk : OvB d) {v : Nat} (h1 : 1 ≤ v) (h2 : v ≤ 16) (j : Nat) : OvB (setP d (vals v) j) := by
  match j with
  | 0 => exact ⟨lit_pvk, hk.ky, hk.ry, hk.kyn, hk.ryn, hk.la, hk.wo, hk.tk, hk.ru, hk.ti⟩
  | 1 => exact ⟨hk.pl, (by show ∀ x ∈ [107], x < 256; decide), hk.ry, (by show 1 ≤ 64; decide), hk.ryn, hk.la, hk.wo, hk.tk, hk.ru, hk.ti⟩
  | 2 => exact ⟨hk.pl, hk.ky, hk.ry, hk.kyn, hk.ryn, (by show ((v % 16 : Nat) : Int) ≤ _; omega), hk.wo, hk.tk, hk.ru, hk.ti⟩
  | 3 => exact ⟨hk.pl, hk.ky, hk.ry, hk.kyn, hk.ryn, hk.la, (by show (v : Int) ≤ _; omega), hk.tk, hk.ru, hk.ti⟩
  | 4 => exact ⟨hk.pl, hk.ky, hk.ry, hk.kyn, hk.ryn, hk.la, hk.wo, (by show (v : Int) ≤ _; omega), hk.ru, hk.ti⟩
  | 5 => exact ⟨hk.pl, hk.ky, (by show ∀ x ∈ [v], x < 256; intro x hx; obtain rfl : x = v := by simpa using hx
                                  omega), hk.kyn, (by show 1 ≤ 64; decide), hk.la, hk.wo, hk.tk, hk.ru, hk.ti⟩
  | 6 => exact ⟨hk.pl, hk.ky, hk.ry, hk.kyn, hk.ryn, hk.la, hk.wo, hk.tk, (by show (v : Int) ≤ _; omega), hk.ti⟩
  | 7 => exact ⟨hk.pl, hk.ky, hk.ry, hk.kyn, hk.ryn, hk.la, hk.wo, hk.tk, hk.ru, hk.ti⟩
  | n + 8 => exact ⟨hk.pl, hk.ky, hk.ry, hk.kyn, hk.ryn, hk.la, hk.wo, hk.tk, hk.ru, (by show (v : Int) ≤ _; omega)⟩
theorem set_no {d : Ov} {v j : Nat} (h1 : 1 ≤ v) (hj : j < 9) (hp : ¬ j ∈ prts d.ki) (h2 : j = 2 → v % 16 ≠ 0) : No121 (setP d (vals v) j) := by
  have ek : (setP d (vals v) j).ki = d.ki := by
    rcases (by omega : j = 0 ∨ j = 1 ∨ j = 2 ∨ j = 3 ∨ j = 4 ∨ j = 5 ∨ j = 6 ∨ j = 7 ∨ j = 8) with rfl | rfl | rfl | rfl | rfl | rfl | rfl | rfl | rfl <;> rfl
  refine .inr (oE_false hj ?_ (by rw [ek]; exact hp))
  have hv : ((v : Int) == 0) = false := by simp; omega
  rcases (by omega : j = 0 ∨ j = 1 ∨ j = 2 ∨ j = 3 ∨ j = 4 ∨ j = 5 ∨ j = 6 ∨ j = 7 ∨ j = 8) with rfl | rfl | rfl | rfl | rfl | rfl | rfl | rfl | rfl
  · show some ((str [112]).toList.isEmpty && (100 : Int) == 0 && ((1 : Nat) : Int) == 0) = some false
    simp
  · show some ((str [107]).toList.isEmpty) = some false
    exact congrArg some (by kernel_rfl)
  · show some (((v % 16 : Nat) : Int) == 0) = some false
    exact congrArg some (by have := h2 rfl; simp; omega)
  · exact congrArg some hv
  · exact congrArg some hv
  · show some (((1 : Nat) : Int) == 0) = some false
    rfl
  · exact congrArg some hv
  · exact congrArg some hv
  · exact congrArg some hv
theorem was_no {d : Ov} {k : Int} (hk : 10 ≤ k) : No121 { d with ki := k } := by
  refine .inl ?_
  show prts k = []
  unfold prts
  rw [if_neg (by omega), if_neg (by omega), if_neg (by omega), if_neg (by omega), if_neg (by omega), if_neg (by omega), if_neg (by omega), if_neg (by omega), if_neg (by omega)]
theorem was_b {d : Ov} (hk : OvB d) (k : Int) : OvB { d with ki := k } := ⟨hk.pl, hk.ky, hk.ry, hk.kyn, hk.ryn, hk.la, hk.wo, hk.tk, hk.ru, hk.ti⟩
theorem OvK.b {d : Ov} (hk : OvK d) : OvB d := ⟨hk.pl, hk.ky, hk.ry, hk.kyn, hk.ryn, hk.la, hk.wo, hk.tk, hk.ru, hk.ti⟩
/-- a field that its kind uses, set within its bounds: an operation that may be -/
theorem opk_set {q : De} {k : Int} (hk : 1 ≤ k ∧ k ≤ 9) (hb : ∀ d ∈ q.tx, d < 256) {v j : Nat} (h1 : 1 ≤ v) (h2 : v ≤ 16) (hj : j ∈ prts k) : OvK (setP (opk k q) (vals v) j) := by
  have c := pkk_lt (c := q.nu) (n := 1099511627776) (by decide)
  have hv : ∀ x ∈ [v], x < 256 := fun x hx => by rw [List.mem_singleton.1 hx]; omega
  have v0 : 0 ≤ ((v % 16 : Nat) : Int) ∧ ((v % 16 : Nat) : Int) < 16 := by omega
  have v1 : 1 ≤ (v : Int) ∧ (v : Int) ≤ 1099511627776 := by omega
  have v2 : 0 ≤ (v : Int) ∧ (v : Int) < 1099511627777 := by omega
  have v3 : 0 ≤ (v : Int) ∧ (v : Int) < 4611686018427387905 := by omega
  have v4 : v < 18446744073709551616 := by omega
  have c1 : 1 ≤ 1 + pkk q.nu 1099511627776 ∧ 1 + pkk q.nu 1099511627776 ≤ 1099511627776 := by omega
  have k1 : ([107] : List Nat).length ≤ 40 := by decide
  have k2 : ∀ x ∈ ([107] : List Nat), x < 256 := by decide
  have k3 : ([v] : List Nat).length ≤ 40 := by show 1 ≤ 40; decide
  rcases (by omega : k = 1 ∨ k = 2 ∨ k = 3 ∨ k = 4 ∨ k = 5 ∨ k = 6 ∨ k = 7 ∨ k = 8 ∨ k = 9) with rfl | rfl | rfl | rfl | rfl | rfl | rfl | rfl | rfl
  · rcases (show j = 0 ∨ j = 1 by have hj : j ∈ [0, 1] := hj; simpa using hj) with rfl | rfl
    · exact ok1 lit_may2 lit_pvk (take_40 _) (take_lt hb 40)
    · exact ok1 (plv_may _ _) (plv_k _ _) k1 k2
  · rcases (show j = 2 ∨ j = 3 by have hj : j ∈ [2, 3] := hj; simpa using hj) with rfl | rfl
    · exact ok2 v0 (pkk_lt (by decide))
    · exact ok2 (pkk_lt (by decide)) v2
  · obtain rfl : j = 4 := by have hj : j ∈ [4] := hj; simpa using hj
    exact ok3 v1
  · rcases (show j = 4 ∨ j = 5 by have hj : j ∈ [4, 5] := hj; simpa using hj) with rfl | rfl
    · exact ok4 v1 (take_40 _) (take_lt hb 40)
    · exact ok4 c1 k3 hv
  · obtain rfl : j = 4 := by have hj : j ∈ [4] := hj; simpa using hj
    exact ok5 v1
  · obtain rfl : j = 6 := by have hj : j ∈ [6] := hj; simpa using hj
    exact ok6 v1
  · obtain rfl : j = 6 := by have hj : j ∈ [6] := hj; simpa using hj
    exact ok7 v1
  · obtain rfl : j = 7 := by have hj : j ∈ [7] := hj; simpa using hj
    exact ok8 v4
  · obtain rfl : j = 8 := by have hj : j ∈ [8] := hj; simpa using hj
    exact ok9 v3
/-- a lane that is 0 again -/
theorem opk_same {q : De} {k : Int} (hk : 1 ≤ k ∧ k ≤ 9) {v : Nat} (h2 : v % 16 = 0) (hj : ¬ 2 ∈ prts k) : setP (opk k q) (vals v) 2 = opk k q := by
  have e : setP (opk k q) (vals v) 2 = { opk k q with la := 0 } := by
    show { opk k q with la := ((v % 16 : Nat) : Int) } = _
    rw [h2]
    rfl
  rw [e]
  rcases (by omega : k = 1 ∨ k = 2 ∨ k = 3 ∨ k = 4 ∨ k = 5 ∨ k = 6 ∨ k = 7 ∨ k = 8 ∨ k = 9) with rfl | rfl | rfl | rfl | rfl | rfl | rfl | rfl | rfl
  · rfl
  · exact absurd (by decide) hj
  all_goals rfl
end Cd
end Go.Proofs.YtbjcckfhfbjchaaGreat

/- CodecRefuses: the walk (written by chb_gen.py; NOT done). -/
namespace Go.Proofs.YtbjcckfhfbjchaaGreat
namespace Cd
open Go.RowKit Go.Deep

theorem ovC_of {d : Ov} {w : World} {ki : Int} {nm : ByteArray} {dl : Int} {x1 : Option Addr} {x2 x3 : Nat} {ky : ByteArray} {la wo tk : Int} {y1 : Option Addr} {y2 y3 : Nat} {ru lu ti : Int} (h : OvV d w (.agg #[.int .i64 ki, .string nm, .int .i64 dl, .slice x1 x2 x3, .string ky, .int .i64 la, .int .i64 wo, .int .i64 tk, .slice y1 y2 y3, .int .i64 ru, .int .u64 lu, .int .i64 ti])) : OvC d w ki nm dl x1 x2 x3 ky la wo tk y1 y2 y3 ru lu ti := by
  obtain ⟨_, _, _, _, _, _, _, _, _, _, _, _, _, _, _, _, e, h⟩ := h
  cases e
  exact h
/-- the world behind the list of lists -/
def UsedW (w : World) : World := (((((((((w.alloc (.cells #[.int .i64 0, .int .i64 1] 3)).alloc (.cells #[.int .i64 2, .int .i64 3] 3)).alloc (.cells #[.int .i64 4] 3)).alloc (.cells #[.int .i64 4, .int .i64 5] 3)).alloc (.cells #[.int .i64 4] 3)).alloc (.cells #[.int .i64 6] 3)).alloc (.cells #[.int .i64 6] 3)).alloc (.cells #[.int .i64 7] 3)).alloc (.cells #[.int .i64 8] 3)).alloc (.cells #[.slice (some ⟨w.heap.size, 0, none⟩) 2 2, .slice (some ⟨w.heap.size + 1, 0, none⟩) 2 2, .slice (some ⟨w.heap.size + 1 + 1, 0, none⟩) 1 1, .slice (some ⟨w.heap.size + 1 + 1 + 1, 0, none⟩) 2 2, .slice (some ⟨w.heap.size + 1 + 1 + 1 + 1, 0, none⟩) 1 1, .slice (some ⟨w.heap.size + 1 + 1 + 1 + 1 + 1, 0, none⟩) 1 1, .slice (some ⟨w.heap.size + 1 + 1 + 1 + 1 + 1 + 1, 0, none⟩) 1 1, .slice (some ⟨w.heap.size + 1 + 1 + 1 + 1 + 1 + 1 + 1, 0, none⟩) 1 1, .slice (some ⟨w.heap.size + 1 + 1 + 1 + 1 + 1 + 1 + 1 + 1, 0, none⟩) 1 1] 52)
theorem used_bel (w : World) : Below w.heap.size w (UsedW w) := by
  unfold UsedW
  exact ((((((((((Below.refl _ _).alloc (Nat.le_refl _) _).alloc (by simp <;> omega) _).alloc (by simp <;> omega) _).alloc (by simp <;> omega) _).alloc (by simp <;> omega) _).alloc (by simp <;> omega) _).alloc (by simp <;> omega) _).alloc (by simp <;> omega) _).alloc (by simp <;> omega) _).alloc (by simp <;> omega) _
theorem used_at (w : World) {k : Int} (hk : 1 ≤ k ∧ k ≤ 9) : ∃ i g : Nat, k - 1 = (i : Int) ∧ i < 9 ∧ (UsedW w).cell? ⟨w.heap.size + 1 + 1 + 1 + 1 + 1 + 1 + 1 + 1 + 1, i, none⟩ = some (.slice (some ⟨g, 0, none⟩) (prts k).length (prts k).length) ∧ (UsedW w).heap[g]? = some (.cells ((prts k).map fun p => Value.int .i64 (p : Nat)).toArray 3 (0, 0)) := by
  have K : ∀ (W : World) (o : Obj) (b : Nat) (x : Obj), W.heap[b]? = some x → (W.alloc o).heap[b]? = some x := fun W o b x h => (Keep.alloc (fun _ => False) W o).blk h (fun f => f)
  have S : ∀ (W : World) (o : Obj), (W.alloc o).heap.size = W.heap.size + 1 := fun W o => by simp
  have h0 : (UsedW w).heap[w.heap.size]? = some (.cells #[.int .i64 0, .int .i64 1] 3) := by
    have t := heap_alloc_new w (.cells #[.int .i64 0, .int .i64 1] 3)
    try simp only [S] at t
    unfold UsedW
    exact K _ _ _ _ (K _ _ _ _ (K _ _ _ _ (K _ _ _ _ (K _ _ _ _ (K _ _ _ _ (K _ _ _ _ (K _ _ _ _ (K _ _ _ _ (t)))))))))
  have h1 : (UsedW w).heap[w.heap.size + 1]? = some (.cells #[.int .i64 2, .int .i64 3] 3) := by
    have t := heap_alloc_new (w.alloc (.cells #[.int .i64 0, .int .i64 1] 3)) (.cells #[.int .i64 2, .int .i64 3] 3)
    try simp only [S] at t
    unfold UsedW
    exact K _ _ _ _ (K _ _ _ _ (K _ _ _ _ (K _ _ _ _ (K _ _ _ _ (K _ _ _ _ (K _ _ _ _ (K _ _ _ _ (t))))))))
  have h2 : (UsedW w).heap[w.heap.size + 1 + 1]? = some (.cells #[.int .i64 4] 3) := by
    have t := heap_alloc_new ((w.alloc (.cells #[.int .i64 0, .int .i64 1] 3)).alloc (.cells #[.int .i64 2, .int .i64 3] 3)) (.cells #[.int .i64 4] 3)
    try simp only [S] at t
    unfold UsedW
    exact K _ _ _ _ (K _ _ _ _ (K _ _ _ _ (K _ _ _ _ (K _ _ _ _ (K _ _ _ _ (K _ _ _ _ (t)))))))
  have h3 : (UsedW w).heap[w.heap.size + 1 + 1 + 1]? = some (.cells #[.int .i64 4, .int .i64 5] 3) := by
    have t := heap_alloc_new (((w.alloc (.cells #[.int .i64 0, .int .i64 1] 3)).alloc (.cells #[.int .i64 2, .int .i64 3] 3)).alloc (.cells #[.int .i64 4] 3)) (.cells #[.int .i64 4, .int .i64 5] 3)
    try simp only [S] at t
    unfold UsedW
    exact K _ _ _ _ (K _ _ _ _ (K _ _ _ _ (K _ _ _ _ (K _ _ _ _ (K _ _ _ _ (t))))))
  have h4 : (UsedW w).heap[w.heap.size + 1 + 1 + 1 + 1]? = some (.cells #[.int .i64 4] 3) := by
    have t := heap_alloc_new ((((w.alloc (.cells #[.int .i64 0, .int .i64 1] 3)).alloc (.cells #[.int .i64 2, .int .i64 3] 3)).alloc (.cells #[.int .i64 4] 3)).alloc (.cells #[.int .i64 4, .int .i64 5] 3)) (.cells #[.int .i64 4] 3)
    try simp only [S] at t
    unfold UsedW
    exact K _ _ _ _ (K _ _ _ _ (K _ _ _ _ (K _ _ _ _ (K _ _ _ _ (t)))))
  have h5 : (UsedW w).heap[w.heap.size + 1 + 1 + 1 + 1 + 1]? = some (.cells #[.int .i64 6] 3) := by
    have t := heap_alloc_new (((((w.alloc (.cells #[.int .i64 0, .int .i64 1] 3)).alloc (.cells #[.int .i64 2, .int .i64 3] 3)).alloc (.cells #[.int .i64 4] 3)).alloc (.cells #[.int .i64 4, .int .i64 5] 3)).alloc (.cells #[.int .i64 4] 3)) (.cells #[.int .i64 6] 3)
    try simp only [S] at t
    unfold UsedW
    exact K _ _ _ _ (K _ _ _ _ (K _ _ _ _ (K _ _ _ _ (t))))
  have h6 : (UsedW w).heap[w.heap.size + 1 + 1 + 1 + 1 + 1 + 1]? = some (.cells #[.int .i64 6] 3) := by
    have t := heap_alloc_new ((((((w.alloc (.cells #[.int .i64 0, .int .i64 1] 3)).alloc (.cells #[.int .i64 2, .int .i64 3] 3)).alloc (.cells #[.int .i64 4] 3)).alloc (.cells #[.int .i64 4, .int .i64 5] 3)).alloc (.cells #[.int .i64 4] 3)).alloc (.cells #[.int .i64 6] 3)) (.cells #[.int .i64 6] 3)
    try simp only [S] at t
    unfold UsedW
    exact K _ _ _ _ (K _ _ _ _ (K _ _ _ _ (t)))
  have h7 : (UsedW w).heap[w.heap.size + 1 + 1 + 1 + 1 + 1 + 1 + 1]? = some (.cells #[.int .i64 7] 3) := by
    have t := heap_alloc_new (((((((w.alloc (.cells #[.int .i64 0, .int .i64 1] 3)).alloc (.cells #[.int .i64 2, .int .i64 3] 3)).alloc (.cells #[.int .i64 4] 3)).alloc (.cells #[.int .i64 4, .int .i64 5] 3)).alloc (.cells #[.int .i64 4] 3)).alloc (.cells #[.int .i64 6] 3)).alloc (.cells #[.int .i64 6] 3)) (.cells #[.int .i64 7] 3)
    try simp only [S] at t
    unfold UsedW
    exact K _ _ _ _ (K _ _ _ _ (t))
  have h8 : (UsedW w).heap[w.heap.size + 1 + 1 + 1 + 1 + 1 + 1 + 1 + 1]? = some (.cells #[.int .i64 8] 3) := by
    have t := heap_alloc_new ((((((((w.alloc (.cells #[.int .i64 0, .int .i64 1] 3)).alloc (.cells #[.int .i64 2, .int .i64 3] 3)).alloc (.cells #[.int .i64 4] 3)).alloc (.cells #[.int .i64 4, .int .i64 5] 3)).alloc (.cells #[.int .i64 4] 3)).alloc (.cells #[.int .i64 6] 3)).alloc (.cells #[.int .i64 6] 3)).alloc (.cells #[.int .i64 7] 3)) (.cells #[.int .i64 8] 3)
    try simp only [S] at t
    unfold UsedW
    exact K _ _ _ _ (t)
  have h9 : (UsedW w).heap[w.heap.size + 1 + 1 + 1 + 1 + 1 + 1 + 1 + 1 + 1]? = some (.cells #[.slice (some ⟨w.heap.size, 0, none⟩) 2 2, .slice (some ⟨w.heap.size + 1, 0, none⟩) 2 2, .slice (some ⟨w.heap.size + 1 + 1, 0, none⟩) 1 1, .slice (some ⟨w.heap.size + 1 + 1 + 1, 0, none⟩) 2 2, .slice (some ⟨w.heap.size + 1 + 1 + 1 + 1, 0, none⟩) 1 1, .slice (some ⟨w.heap.size + 1 + 1 + 1 + 1 + 1, 0, none⟩) 1 1, .slice (some ⟨w.heap.size + 1 + 1 + 1 + 1 + 1 + 1, 0, none⟩) 1 1, .slice (some ⟨w.heap.size + 1 + 1 + 1 + 1 + 1 + 1 + 1, 0, none⟩) 1 1, .slice (some ⟨w.heap.size + 1 + 1 + 1 + 1 + 1 + 1 + 1 + 1, 0, none⟩) 1 1] 52) := by
    have t := heap_alloc_new (((((((((w.alloc (.cells #[.int .i64 0, .int .i64 1] 3)).alloc (.cells #[.int .i64 2, .int .i64 3] 3)).alloc (.cells #[.int .i64 4] 3)).alloc (.cells #[.int .i64 4, .int .i64 5] 3)).alloc (.cells #[.int .i64 4] 3)).alloc (.cells #[.int .i64 6] 3)).alloc (.cells #[.int .i64 6] 3)).alloc (.cells #[.int .i64 7] 3)).alloc (.cells #[.int .i64 8] 3)) (.cells #[.slice (some ⟨w.heap.size, 0, none⟩) 2 2, .slice (some ⟨w.heap.size + 1, 0, none⟩) 2 2, .slice (some ⟨w.heap.size + 1 + 1, 0, none⟩) 1 1, .slice (some ⟨w.heap.size + 1 + 1 + 1, 0, none⟩) 2 2, .slice (some ⟨w.heap.size + 1 + 1 + 1 + 1, 0, none⟩) 1 1, .slice (some ⟨w.heap.size + 1 + 1 + 1 + 1 + 1, 0, none⟩) 1 1, .slice (some ⟨w.heap.size + 1 + 1 + 1 + 1 + 1 + 1, 0, none⟩) 1 1, .slice (some ⟨w.heap.size + 1 + 1 + 1 + 1 + 1 + 1 + 1, 0, none⟩) 1 1, .slice (some ⟨w.heap.size + 1 + 1 + 1 + 1 + 1 + 1 + 1 + 1, 0, none⟩) 1 1] 52)
    try simp only [S] at t
    unfold UsedW
    exact t
  rcases (by omega : k = 1 ∨ k = 2 ∨ k = 3 ∨ k = 4 ∨ k = 5 ∨ k = 6 ∨ k = 7 ∨ k = 8 ∨ k = 9) with rfl | rfl | rfl | rfl | rfl | rfl | rfl | rfl | rfl
  · exact ⟨0, w.heap.size, rfl, by decide, cell_blk h9 0 rfl, h0⟩
  · exact ⟨1, w.heap.size + 1, rfl, by decide, cell_blk h9 1 rfl, h1⟩
  · exact ⟨2, w.heap.size + 1 + 1, rfl, by decide, cell_blk h9 2 rfl, h2⟩
  · exact ⟨3, w.heap.size + 1 + 1 + 1, rfl, by decide, cell_blk h9 3 rfl, h3⟩
  · exact ⟨4, w.heap.size + 1 + 1 + 1 + 1, rfl, by decide, cell_blk h9 4 rfl, h4⟩
  · exact ⟨5, w.heap.size + 1 + 1 + 1 + 1 + 1, rfl, by decide, cell_blk h9 5 rfl, h5⟩
  · exact ⟨6, w.heap.size + 1 + 1 + 1 + 1 + 1 + 1, rfl, by decide, cell_blk h9 6 rfl, h6⟩
  · exact ⟨7, w.heap.size + 1 + 1 + 1 + 1 + 1 + 1 + 1, rfl, by decide, cell_blk h9 7 rfl, h7⟩
  · exact ⟨8, w.heap.size + 1 + 1 + 1 + 1 + 1 + 1 + 1 + 1, rfl, by decide, cell_blk h9 8 rfl, h8⟩
theorem calls_behind' {f : FuncId} {args : Array Value} {W : World} (u : Behind W) {v : Value}
    (h : Calls Tryz.prog f args u.1 fun e w' => e = .returned v ∧ w' = u.1) : Calls Tryz.prog f args u.1 fun e w'' => e = .returned v ∧ ∃ u' : Behind W, w'' = u'.1 :=
  h.mono fun _ _ ⟨he, hb⟩ => ⟨he, u, hb⟩
theorem prts_two (k : Int) : (prts k).length ≤ 2 := by
  unfold prts
  repeat' split
  all_goals decide
theorem set_ki (d : Ov) (v j : Nat) : (setP d (vals v) j).ki = d.ki := by
  match j with
  | 0 => rfl
  | 1 => rfl
  | 2 => rfl
  | 3 => rfl
  | 4 => rfl
  | 5 => rfl
  | 6 => rfl
  | 7 => rfl
  | n + 8 => rfl
set_option maxRecDepth 100000 in
set_option maxHeartbeats 4000000 in
theorem refuse_core (y1 y2 : Int) (q : De) (w : World) (hq : q.In w) (d : Ov) (j v : Nat) (u : Int) (kk : Int)
    (hj : j < 9) (hv : 1 ≤ v ∧ v ≤ 16) (huv : 1 + u = (v : Int))
    (HDK : Hid (OvK d ∧ 1 ≤ d.ki ∧ d.ki ≤ 9)) (HOKj : Hid (j ∈ prts d.ki → OvK (setP d (vals v) j))) (HNO : Hid (¬ j ∈ prts d.ki → No121 (setP d (vals v) j) ∨ setP d (vals v) j = d)) (hkk : 0 ≤ kk ∧ kk < 1000) (HSB : Hid (OvB (setP d (vals v) j))) (HSK : Hid ((setP d (vals v) j).ki ≤ 9223372036854775807)) (HSL : Hid ((setP d (vals v) j).lu < 18446744073709551616))
    (OO : Hid (∀ W, q.In W → Calls Tryz.prog 9 #[.agg q.row.toArray] W fun e w' => ∃ v, e = .returned v ∧ OvV d w' v ∧ Below W.heap.size W w'))
    (PV : Hid (∀ W, Calls Tryz.prog 19 #[.int .i64 y2, .int .i64 16] W fun e w' => e = .returned (.int .i64 u) ∧ w' = W))
    (PJ : Hid (∀ W, Calls Tryz.prog 19 #[.int .i64 y1, .int .i64 9] W fun e w' => e = .returned (.int .i64 (j : Int)) ∧ w' = W))
    (PK : Hid (∀ W, Calls Tryz.prog 19 #[.int .i64 y2, .int .i64 1000] W fun e w' => e = .returned (.int .i64 kk) ∧ w' = W))
    (PL : Hid (∀ W, Calls Tryz.prog 19 #[.int .i64 (v : Int), .int .i64 16] W fun e w' => e = .returned (.int .i64 ((v % 16 : Nat) : Int)) ∧ w' = W)) :
    Calls Tryz.prog 7 #[.agg q.row.toArray, .int .i64 y1, .int .i64 y2] w fun en w' => en = .returned (.bool true) ∧ Below w.heap.size w w' := by
  obtain ⟨ki, ⟨sa, sn, sc⟩, nu, wo, ⟨ta, tn, tc⟩, lu, rs, tx⟩ := q
  change Calls Tryz.prog _ #[.agg #[.int .i64 ki, .slice sa sn sc, .int .i64 nu, .int .i64 wo, .slice ta tn tc, .int .u64 (lu : Int)], .int .i64 y1, .int .i64 y2] w _
  have hba : Below w.heap.size w (w.alloc (.cells #[.int .i64 ki, .slice sa sn sc, .int .i64 nu, .int .i64 wo, .slice ta tn tc, .int .u64 (lu : Int)] 27)) := (Below.refl _ _).alloc (Nat.le_refl _) _
  have HB0 := hide hba
  have HD_0 := hide (heap_alloc_new w (.cells #[.int .i64 ki, .slice sa sn sc, .int .i64 nu, .int .i64 wo, .slice ta tn tc, .int .u64 (lu : Int)] 27))
  have HQ_0 := hide (hq.bel hba)
  have HQ00 := hide hq
  clear hba hq
  go_enter Tryz.func7, Tryz.ntmps7
  go_upto_region 1 with fail
  generalize w.alloc (.cells #[.int .i64 ki, .slice sa sn sc, .int .i64 nu, .int .i64 wo, .slice ta tn tc, .int .u64 (lu : Int)] 27) = w1 at *
  go_wp2_with fail
  try (go_at_call 8)
  refine (known12_any _).mono ?_
  rintro e w2 ⟨rfl, hb⟩
  have HB1 := hide (HB0.out.trans (hb.mono HB0.out.size))
  have HD_1 := hide (blkB HD_0.out hb)
  have HQ_1 := hide (HQ_0.out.bel hb)
  clear HD_0 HQ_0 HB0
  clear hb
  have f0 := cell_blk HD_1.out 0 (v := .int .i64 ki) rfl
  have f1 := cell_blk HD_1.out 1 (v := .slice sa sn sc) rfl
  have f2 := cell_blk HD_1.out 2 (v := .int .i64 nu) rfl
  have f3 := cell_blk HD_1.out 3 (v := .int .i64 wo) rfl
  have f4 := cell_blk HD_1.out 4 (v := .slice ta tn tc) rfl
  have f5 := cell_blk HD_1.out 5 (v := .int .u64 (lu : Int)) rfl
  go_wp2_with fail
  try (go_at_call 9)
  refine (OO.out w2 HQ_1.out).mono ?_
  rintro e w3 ⟨vv, rfl, hvv, hb⟩
  have HB2 := hide (HB1.out.trans (hb.mono HB1.out.size))
  have HD_2 := hide (blkB HD_1.out hb)
  have HQ_2 := hide (HQ_1.out.bel hb)
  clear HD_1 HQ_1 HB1
  clear hb
  clear f0 f1 f2 f3 f4 f5
  have HV_2 := hide (hvv)
  obtain ⟨oki, onm, odl, ox1, ox2, ox3, oky, ola, owo, otk, oy1, oy2, oy3, oru, olu, oti, ev, hov⟩ := hvv
  subst ev
  clear hov
  have hdo := blk_lt HD_2.out
  have hba : Below w3.heap.size w3 (w3.alloc (.cells #[.int .i64 oki, .string onm, .int .i64 odl, .slice ox1 ox2 ox3, .string oky, .int .i64 ola, .int .i64 owo, .int .i64 otk, .slice oy1 oy2 oy3, .int .i64 oru, .int .u64 olu, .int .i64 oti] 32)) := (Below.refl _ _).alloc (Nat.le_refl _) _
  have hnx := heap_alloc_new w3 (.cells #[.int .i64 oki, .string onm, .int .i64 odl, .slice ox1 ox2 ox3, .string oky, .int .i64 ola, .int .i64 owo, .int .i64 otk, .slice oy1 oy2 oy3, .int .i64 oru, .int .u64 olu, .int .i64 oti] 32)
  have HB3 := hide (HB2.out.trans (hba.mono HB2.out.size))
  have HD_3 := hide (blkB HD_2.out hba)
  have HQ_3 := hide (HQ_2.out.bel hba)
  have HV_3 := hide (HV_2.out.bel hba)
  clear HD_2 HQ_2 HV_2 HB2
  have HO_3 := hide (hnx)
  clear hba hnx
  go_upto_region 4 with fail
  generalize w3.alloc (.cells #[.int .i64 oki, .string onm, .int .i64 odl, .slice ox1 ox2 ox3, .string oky, .int .i64 ola, .int .i64 owo, .int .i64 otk, .slice oy1 oy2 oy3, .int .i64 oru, .int .u64 olu, .int .i64 oti] 32) = w4 at *
  generalize w3.heap.size = ob at *
  have how := blk_lt HO_3.out
  have f0 := cell_blk HO_3.out 0 (v := .int .i64 oki) rfl
  have f1 := cell_blk HO_3.out 1 (v := .string onm) rfl
  have f2 := cell_blk HO_3.out 2 (v := .int .i64 odl) rfl
  have f3 := cell_blk HO_3.out 3 (v := .slice ox1 ox2 ox3) rfl
  have f4 := cell_blk HO_3.out 4 (v := .string oky) rfl
  have f5 := cell_blk HO_3.out 5 (v := .int .i64 ola) rfl
  have f6 := cell_blk HO_3.out 6 (v := .int .i64 owo) rfl
  have f7 := cell_blk HO_3.out 7 (v := .int .i64 otk) rfl
  have f8 := cell_blk HO_3.out 8 (v := .slice oy1 oy2 oy3) rfl
  have f9 := cell_blk HO_3.out 9 (v := .int .i64 oru) rfl
  have f10 := cell_blk HO_3.out 10 (v := .int .u64 olu) rfl
  have f11 := cell_blk HO_3.out 11 (v := .int .i64 oti) rfl
  have hba : Below w4.heap.size w4 (w4.alloc (.cells #[.int .i64 oki, .string onm, .int .i64 odl, .slice ox1 ox2 ox3, .string oky, .int .i64 ola, .int .i64 owo, .int .i64 otk, .slice oy1 oy2 oy3, .int .i64 oru, .int .u64 olu, .int .i64 oti] 32)) := (Below.refl _ _).alloc (Nat.le_refl _) _
  have hnx := heap_alloc_new w4 (.cells #[.int .i64 oki, .string onm, .int .i64 odl, .slice ox1 ox2 ox3, .string oky, .int .i64 ola, .int .i64 owo, .int .i64 otk, .slice oy1 oy2 oy3, .int .i64 oru, .int .u64 olu, .int .i64 oti] 32)
  have HB4 := hide (HB3.out.trans (hba.mono HB3.out.size))
  have HD_4 := hide (blkB HD_3.out hba)
  have HQ_4 := hide (HQ_3.out.bel hba)
  have HV_4 := hide (HV_3.out.bel hba)
  have HO_4 := hide (blkB HO_3.out hba)
  clear HD_3 HQ_3 HV_3 HO_3 HB3
  have HW_4 := hide (hnx)
  clear hba hnx
  go_upto_region 5 with fail
  generalize w4.alloc (.cells #[.int .i64 oki, .string onm, .int .i64 odl, .slice ox1 ox2 ox3, .string oky, .int .i64 ola, .int .i64 owo, .int .i64 otk, .slice oy1 oy2 oy3, .int .i64 oru, .int .u64 olu, .int .i64 oti] 32) = w5 at *
  generalize w4.heap.size = wb at *
  clear f0 f1 f2 f3 f4 f5 f6 f7 f8 f9 f10 f11
  have HV5 := hide (ovC_of HV_4.out)
  have hw8 : IntKind.u8.wrap (v : Int) = (v : Int) := by simp [IntKind.wrap, IntKind.bits, IntKind.signed]; omega
  have hwu : IntKind.u64.wrap (v : Int) = (v : Int) := by simp [IntKind.wrap, IntKind.bits, IntKind.signed]; omega
  have hwv : IntKind.i64.wrap (v : Int) = (v : Int) := by simp [IntKind.wrap, IntKind.bits, IntKind.signed]; omega
  go_upto_region 6 with (go_at_call 19; refine (PV.out _).mono ?_; rintro e w' ⟨rfl, hw⟩; rw [hw]; clear hw w')
  go_upto_block 0 with (go_at_call 19; refine (PJ.out _).mono ?_; rintro e w' ⟨rfl, hw⟩; rw [hw]; clear hw w')
  go_cut [28] from 29 to 66 (fun _ wx => ∃ (eki : Int) (enm : ByteArray) (edl : Int) (ex1 : Option Addr) (ex2 ex3 : Nat) (eky : ByteArray) (ela ewo etk : Int) (ey1 : Option Addr) (ey2 ey3 : Nat) (eru elu eti : Int), Hid (wx.heap[ob]? = some (.cells #[.int .i64 eki, .string enm, .int .i64 edl, .slice ex1 ex2 ex3, .string eky, .int .i64 ela, .int .i64 ewo, .int .i64 etk, .slice ey1 ey2 ey3, .int .i64 eru, .int .u64 elu, .int .i64 eti] 32 (0, 0)) ∧ OvV (setP d (vals v) j) wx (.agg #[.int .i64 eki, .string enm, .int .i64 edl, .slice ex1 ex2 ex3, .string eky, .int .i64 ela, .int .i64 ewo, .int .i64 etk, .slice ey1 ey2 ey3, .int .i64 eru, .int .u64 elu, .int .i64 eti]) ∧ wx.heap[wb]? = some (.cells #[.int .i64 oki, .string onm, .int .i64 odl, .slice ox1 ox2 ox3, .string oky, .int .i64 ola, .int .i64 owo, .int .i64 otk, .slice oy1 oy2 oy3, .int .i64 oru, .int .u64 olu, .int .i64 oti] 32 (0, 0)) ∧ OvV d wx (.agg #[.int .i64 oki, .string onm, .int .i64 odl, .slice ox1 ox2 ox3, .string oky, .int .i64 ola, .int .i64 owo, .int .i64 otk, .slice oy1 oy2 oy3, .int .i64 oru, .int .u64 olu, .int .i64 oti]) ∧ wx.heap[w.heap.size]? = some (.cells #[.int .i64 ki, .slice sa sn sc, .int .i64 nu, .int .i64 wo, .slice ta tn tc, .int .u64 (lu : Int)] 27 (0, 0)) ∧ Below w.heap.size w wx))
  case first =>
    obtain ⟨HE, HNs, HRw⟩ := HV5.out
    obtain ⟨e1, e2, e3, e4, e5, e6, e7, e8, e9, e10⟩ := HE
    have HE := hide (And.intro e1 (And.intro e2 (And.intro e3 (And.intro e4 (And.intro e5 (And.intro e6 (And.intro e7 (And.intro e8 (And.intro e9 e10)))))))))
    clear HNs HRw e1 e2 e3 e4 e5 e6 e7 e8 e9 e10
    rcases (by omega : j = 0 ∨ j = 1 ∨ j = 2 ∨ j = 3 ∨ j = 4 ∨ j = 5 ∨ j = 6 ∨ j = 7 ∨ j = 8) with rfl | rfl | rfl | rfl | rfl | rfl | rfl | rfl | rfl
    · go_wp2_with fail
      go_at_call 20
      refine (little2_any _).mono ?_
      rintro e w6 ⟨gg, rfl, hg, hle, hb⟩
      have HO6 := hide (blkB HO_4.out hb)
      have HV6 := hide (ovC_of (HV_4.out.bel hb))
      have ks := ((keep_cell w6 ob 1 (.string ⟨#[112]⟩)).more (keep_cell _ ob 2 (.int .i64 100))).more (keep_cell _ ob 3 (.slice (some ⟨gg, 0, none⟩) 1 1))
      have hck := HV6.out.keep (T := 32) (by decide) (by decide) (by decide) ks (fun k e => by have e : k = ob := e; subst e; exact ⟨_, _, HO6.out, .inr rfl⟩)
      have hob := blk_lt HO_4.out
      have hg2 := ks.blk hg (fun e => by have e : gg = ob := e; omega)
      have H1 : Hid ((((w6.setCell ⟨ob, 1, none⟩ (.string ⟨#[112]⟩)).setCell ⟨ob, 2, none⟩ (.int .i64 100)).setCell ⟨ob, 3, none⟩ (.slice (some ⟨gg, 0, none⟩) 1 1)).heap[ob]? = some (.cells #[.int .i64 oki, .string ⟨#[112]⟩, .int .i64 100, .slice (some ⟨gg, 0, none⟩) 1 1, .string oky, .int .i64 ola, .int .i64 owo, .int .i64 otk, .slice oy1 oy2 oy3, .int .i64 oru, .int .u64 olu, .int .i64 oti] 32 (0, 0))) := set_blk (set_blk (set_blk HO6.out 1 _) 2 _) 3 _
      have H2 : Hid (OvV (setP d (vals v) 0) (((w6.setCell ⟨ob, 1, none⟩ (.string ⟨#[112]⟩)).setCell ⟨ob, 2, none⟩ (.int .i64 100)).setCell ⟨ob, 3, none⟩ (.slice (some ⟨gg, 0, none⟩) 1 1)) (.agg #[.int .i64 oki, .string ⟨#[112]⟩, .int .i64 100, .slice (some ⟨gg, 0, none⟩) 1 1, .string oky, .int .i64 ola, .int .i64 owo, .int .i64 otk, .slice oy1 oy2 oy3, .int .i64 oru, .int .u64 olu, .int .i64 oti])) := ⟨oki, ⟨#[112]⟩, 100, (some ⟨gg, 0, none⟩), 1, 1, oky, ola, owo, otk, oy1, oy2, oy3, oru, olu, oti, rfl, ⟨HE.out.1, rfl, rfl, HE.out.2.2.2.1, HE.out.2.2.2.2.1, HE.out.2.2.2.2.2.1, HE.out.2.2.2.2.2.2.1, HE.out.2.2.2.2.2.2.2.1, HE.out.2.2.2.2.2.2.2.2.1, HE.out.2.2.2.2.2.2.2.2.2⟩, lit_own hg2, hck.2.2⟩
      have H3 := hide (ks.blk (blkB HW_4.out hb) fun e => by have e : wb = ob := e; omega)
      have H4 : Hid (OvV d (((w6.setCell ⟨ob, 1, none⟩ (.string ⟨#[112]⟩)).setCell ⟨ob, 2, none⟩ (.int .i64 100)).setCell ⟨ob, 3, none⟩ (.slice (some ⟨gg, 0, none⟩) 1 1)) (.agg #[.int .i64 oki, .string onm, .int .i64 odl, .slice ox1 ox2 ox3, .string oky, .int .i64 ola, .int .i64 owo, .int .i64 otk, .slice oy1 oy2 oy3, .int .i64 oru, .int .u64 olu, .int .i64 oti])) := ⟨oki, onm, odl, ox1, ox2, ox3, oky, ola, owo, otk, oy1, oy2, oy3, oru, olu, oti, rfl, hck⟩
      have H5 := hide (ks.blk (blkB HD_4.out hb) fun e => by have e : w.heap.size = ob := e; omega)
      have hb6 := HB4.out.trans (hb.mono HB4.out.size)
      have H6 := hide (hb6.trans (ks.below hb6.size fun i e => by have e : i = ob := e; omega))
      have c1 := cell_blk HO6.out 1 (v := .string onm) rfl
      have c2 := cell_blk HO6.out 2 (v := .int .i64 odl) rfl
      have c3 := cell_blk HO6.out 3 (v := .slice ox1 ox2 ox3) rfl
      have z1 := frozen_blk HO6.out 1
      have z2 := frozen_blk HO6.out 2
      have z3 := frozen_blk HO6.out 3
      clear ks hck hg2 hg hle hb hb6 hob HD_4 HQ_4 HV_4 HV5 HV6 HO_4 HO6 HW_4 HB4
      go_wp2_with fail
      go_meet
      case rel => exact ⟨oki, ⟨#[112]⟩, 100, (some ⟨gg, 0, none⟩), 1, 1, oky, ola, owo, otk, oy1, oy2, oy3, oru, olu, oti, H1.out, H2.out, H3.out, H4.out, H5.out, H6.out⟩
    · have ks := keep_cell w5 ob 4 (.string ⟨#[107]⟩)
      have hck := HV5.out.keep (T := 32) (by decide) (by decide) (by decide) ks (fun k e => by have e : k = ob := e; subst e; exact ⟨_, _, HO_4.out, .inr rfl⟩)
      have H1 : Hid ((w5.setCell ⟨ob, 4, none⟩ (.string ⟨#[107]⟩)).heap[ob]? = some (.cells #[.int .i64 oki, .string onm, .int .i64 odl, .slice ox1 ox2 ox3, .string ⟨#[107]⟩, .int .i64 ola, .int .i64 owo, .int .i64 otk, .slice oy1 oy2 oy3, .int .i64 oru, .int .u64 olu, .int .i64 oti] 32 (0, 0))) := set_blk HO_4.out 4 _
      have H2 : Hid (OvV (setP d (vals v) 1) (w5.setCell ⟨ob, 4, none⟩ (.string ⟨#[107]⟩)) (.agg #[.int .i64 oki, .string onm, .int .i64 odl, .slice ox1 ox2 ox3, .string ⟨#[107]⟩, .int .i64 ola, .int .i64 owo, .int .i64 otk, .slice oy1 oy2 oy3, .int .i64 oru, .int .u64 olu, .int .i64 oti])) := ⟨oki, onm, odl, ox1, ox2, ox3, ⟨#[107]⟩, ola, owo, otk, oy1, oy2, oy3, oru, olu, oti, rfl, ⟨HE.out.1, HE.out.2.1, HE.out.2.2.1, rfl, HE.out.2.2.2.2.1, HE.out.2.2.2.2.2.1, HE.out.2.2.2.2.2.2.1, HE.out.2.2.2.2.2.2.2.1, HE.out.2.2.2.2.2.2.2.2.1, HE.out.2.2.2.2.2.2.2.2.2⟩, hck.2⟩
      have H3 := hide (ks.blk HW_4.out fun e => by have e : wb = ob := e; omega)
      have H4 : Hid (OvV d (w5.setCell ⟨ob, 4, none⟩ (.string ⟨#[107]⟩)) (.agg #[.int .i64 oki, .string onm, .int .i64 odl, .slice ox1 ox2 ox3, .string oky, .int .i64 ola, .int .i64 owo, .int .i64 otk, .slice oy1 oy2 oy3, .int .i64 oru, .int .u64 olu, .int .i64 oti])) := ⟨oki, onm, odl, ox1, ox2, ox3, oky, ola, owo, otk, oy1, oy2, oy3, oru, olu, oti, rfl, hck⟩
      have H5 := hide (ks.blk HD_4.out fun e => by have e : w.heap.size = ob := e; omega)
      have H6 := hide (HB4.out.trans (ks.below HB4.out.size fun i e => by have e : i = ob := e; omega))
      have c4 := cell_blk HO_4.out 4 (v := .string oky) rfl
      have z4 := frozen_blk HO_4.out 4
      clear ks hck HD_4 HQ_4 HV_4 HV5 HO_4 HW_4 HB4
      go_wp2_with (go_at_call 19; refine (PL.out _).mono ?_; rintro e w' ⟨rfl, hw⟩; rw [hw]; clear hw w')
      go_meet
      case rel => exact ⟨oki, onm, odl, ox1, ox2, ox3, ⟨#[107]⟩, ola, owo, otk, oy1, oy2, oy3, oru, olu, oti, H1.out, H2.out, H3.out, H4.out, H5.out, H6.out⟩
    · have ks := keep_cell w5 ob 5 (.int .i64 ((v % 16 : Nat) : Int))
      have hck := HV5.out.keep (T := 32) (by decide) (by decide) (by decide) ks (fun k e => by have e : k = ob := e; subst e; exact ⟨_, _, HO_4.out, .inr rfl⟩)
      have H1 : Hid ((w5.setCell ⟨ob, 5, none⟩ (.int .i64 ((v % 16 : Nat) : Int))).heap[ob]? = some (.cells #[.int .i64 oki, .string onm, .int .i64 odl, .slice ox1 ox2 ox3, .string oky, .int .i64 ((v % 16 : Nat) : Int), .int .i64 owo, .int .i64 otk, .slice oy1 oy2 oy3, .int .i64 oru, .int .u64 olu, .int .i64 oti] 32 (0, 0))) := set_blk HO_4.out 5 _
      have H2 : Hid (OvV (setP d (vals v) 2) (w5.setCell ⟨ob, 5, none⟩ (.int .i64 ((v % 16 : Nat) : Int))) (.agg #[.int .i64 oki, .string onm, .int .i64 odl, .slice ox1 ox2 ox3, .string oky, .int .i64 ((v % 16 : Nat) : Int), .int .i64 owo, .int .i64 otk, .slice oy1 oy2 oy3, .int .i64 oru, .int .u64 olu, .int .i64 oti])) := ⟨oki, onm, odl, ox1, ox2, ox3, oky, ((v % 16 : Nat) : Int), owo, otk, oy1, oy2, oy3, oru, olu, oti, rfl, ⟨HE.out.1, HE.out.2.1, HE.out.2.2.1, HE.out.2.2.2.1, rfl, HE.out.2.2.2.2.2.1, HE.out.2.2.2.2.2.2.1, HE.out.2.2.2.2.2.2.2.1, HE.out.2.2.2.2.2.2.2.2.1, HE.out.2.2.2.2.2.2.2.2.2⟩, hck.2⟩
      have H3 := hide (ks.blk HW_4.out fun e => by have e : wb = ob := e; omega)
      have H4 : Hid (OvV d (w5.setCell ⟨ob, 5, none⟩ (.int .i64 ((v % 16 : Nat) : Int))) (.agg #[.int .i64 oki, .string onm, .int .i64 odl, .slice ox1 ox2 ox3, .string oky, .int .i64 ola, .int .i64 owo, .int .i64 otk, .slice oy1 oy2 oy3, .int .i64 oru, .int .u64 olu, .int .i64 oti])) := ⟨oki, onm, odl, ox1, ox2, ox3, oky, ola, owo, otk, oy1, oy2, oy3, oru, olu, oti, rfl, hck⟩
      have H5 := hide (ks.blk HD_4.out fun e => by have e : w.heap.size = ob := e; omega)
      have H6 := hide (HB4.out.trans (ks.below HB4.out.size fun i e => by have e : i = ob := e; omega))
      have c5 := cell_blk HO_4.out 5 (v := .int .i64 ola) rfl
      have z5 := frozen_blk HO_4.out 5
      clear ks hck HD_4 HQ_4 HV_4 HV5 HO_4 HW_4 HB4
      go_wp2_with (go_at_call 19; refine (PL.out _).mono ?_; rintro e w' ⟨rfl, hw⟩; rw [hw]; clear hw w')
      go_meet
      case rel => exact ⟨oki, onm, odl, ox1, ox2, ox3, oky, ((v % 16 : Nat) : Int), owo, otk, oy1, oy2, oy3, oru, olu, oti, H1.out, H2.out, H3.out, H4.out, H5.out, H6.out⟩
    · have ks := keep_cell w5 ob 6 (.int .i64 (v : Int))
      have hck := HV5.out.keep (T := 32) (by decide) (by decide) (by decide) ks (fun k e => by have e : k = ob := e; subst e; exact ⟨_, _, HO_4.out, .inr rfl⟩)
      have H1 : Hid ((w5.setCell ⟨ob, 6, none⟩ (.int .i64 (v : Int))).heap[ob]? = some (.cells #[.int .i64 oki, .string onm, .int .i64 odl, .slice ox1 ox2 ox3, .string oky, .int .i64 ola, .int .i64 (v : Int), .int .i64 otk, .slice oy1 oy2 oy3, .int .i64 oru, .int .u64 olu, .int .i64 oti] 32 (0, 0))) := set_blk HO_4.out 6 _
      have H2 : Hid (OvV (setP d (vals v) 3) (w5.setCell ⟨ob, 6, none⟩ (.int .i64 (v : Int))) (.agg #[.int .i64 oki, .string onm, .int .i64 odl, .slice ox1 ox2 ox3, .string oky, .int .i64 ola, .int .i64 (v : Int), .int .i64 otk, .slice oy1 oy2 oy3, .int .i64 oru, .int .u64 olu, .int .i64 oti])) := ⟨oki, onm, odl, ox1, ox2, ox3, oky, ola, (v : Int), otk, oy1, oy2, oy3, oru, olu, oti, rfl, ⟨HE.out.1, HE.out.2.1, HE.out.2.2.1, HE.out.2.2.2.1, HE.out.2.2.2.2.1, rfl, HE.out.2.2.2.2.2.2.1, HE.out.2.2.2.2.2.2.2.1, HE.out.2.2.2.2.2.2.2.2.1, HE.out.2.2.2.2.2.2.2.2.2⟩, hck.2⟩
      have H3 := hide (ks.blk HW_4.out fun e => by have e : wb = ob := e; omega)
      have H4 : Hid (OvV d (w5.setCell ⟨ob, 6, none⟩ (.int .i64 (v : Int))) (.agg #[.int .i64 oki, .string onm, .int .i64 odl, .slice ox1 ox2 ox3, .string oky, .int .i64 ola, .int .i64 owo, .int .i64 otk, .slice oy1 oy2 oy3, .int .i64 oru, .int .u64 olu, .int .i64 oti])) := ⟨oki, onm, odl, ox1, ox2, ox3, oky, ola, owo, otk, oy1, oy2, oy3, oru, olu, oti, rfl, hck⟩
      have H5 := hide (ks.blk HD_4.out fun e => by have e : w.heap.size = ob := e; omega)
      have H6 := hide (HB4.out.trans (ks.below HB4.out.size fun i e => by have e : i = ob := e; omega))
      have c6 := cell_blk HO_4.out 6 (v := .int .i64 owo) rfl
      have z6 := frozen_blk HO_4.out 6
      clear ks hck HD_4 HQ_4 HV_4 HV5 HO_4 HW_4 HB4
      go_wp2_with (go_at_call 19; refine (PL.out _).mono ?_; rintro e w' ⟨rfl, hw⟩; rw [hw]; clear hw w')
      go_meet
      case rel => exact ⟨oki, onm, odl, ox1, ox2, ox3, oky, ola, (v : Int), otk, oy1, oy2, oy3, oru, olu, oti, H1.out, H2.out, H3.out, H4.out, H5.out, H6.out⟩
    · have ks := keep_cell w5 ob 7 (.int .i64 (v : Int))
      have hck := HV5.out.keep (T := 32) (by decide) (by decide) (by decide) ks (fun k e => by have e : k = ob := e; subst e; exact ⟨_, _, HO_4.out, .inr rfl⟩)
      have H1 : Hid ((w5.setCell ⟨ob, 7, none⟩ (.int .i64 (v : Int))).heap[ob]? = some (.cells #[.int .i64 oki, .string onm, .int .i64 odl, .slice ox1 ox2 ox3, .string oky, .int .i64 ola, .int .i64 owo, .int .i64 (v : Int), .slice oy1 oy2 oy3, .int .i64 oru, .int .u64 olu, .int .i64 oti] 32 (0, 0))) := set_blk HO_4.out 7 _
      have H2 : Hid (OvV (setP d (vals v) 4) (w5.setCell ⟨ob, 7, none⟩ (.int .i64 (v : Int))) (.agg #[.int .i64 oki, .string onm, .int .i64 odl, .slice ox1 ox2 ox3, .string oky, .int .i64 ola, .int .i64 owo, .int .i64 (v : Int), .slice oy1 oy2 oy3, .int .i64 oru, .int .u64 olu, .int .i64 oti])) := ⟨oki, onm, odl, ox1, ox2, ox3, oky, ola, owo, (v : Int), oy1, oy2, oy3, oru, olu, oti, rfl, ⟨HE.out.1, HE.out.2.1, HE.out.2.2.1, HE.out.2.2.2.1, HE.out.2.2.2.2.1, HE.out.2.2.2.2.2.1, rfl, HE.out.2.2.2.2.2.2.2.1, HE.out.2.2.2.2.2.2.2.2.1, HE.out.2.2.2.2.2.2.2.2.2⟩, hck.2⟩
      have H3 := hide (ks.blk HW_4.out fun e => by have e : wb = ob := e; omega)
      have H4 : Hid (OvV d (w5.setCell ⟨ob, 7, none⟩ (.int .i64 (v : Int))) (.agg #[.int .i64 oki, .string onm, .int .i64 odl, .slice ox1 ox2 ox3, .string oky, .int .i64 ola, .int .i64 owo, .int .i64 otk, .slice oy1 oy2 oy3, .int .i64 oru, .int .u64 olu, .int .i64 oti])) := ⟨oki, onm, odl, ox1, ox2, ox3, oky, ola, owo, otk, oy1, oy2, oy3, oru, olu, oti, rfl, hck⟩
      have H5 := hide (ks.blk HD_4.out fun e => by have e : w.heap.size = ob := e; omega)
      have H6 := hide (HB4.out.trans (ks.below HB4.out.size fun i e => by have e : i = ob := e; omega))
      have c7 := cell_blk HO_4.out 7 (v := .int .i64 otk) rfl
      have z7 := frozen_blk HO_4.out 7
      clear ks hck HD_4 HQ_4 HV_4 HV5 HO_4 HW_4 HB4
      go_wp2_with (go_at_call 19; refine (PL.out _).mono ?_; rintro e w' ⟨rfl, hw⟩; rw [hw]; clear hw w')
      go_meet
      case rel => exact ⟨oki, onm, odl, ox1, ox2, ox3, oky, ola, owo, (v : Int), oy1, oy2, oy3, oru, olu, oti, H1.out, H2.out, H3.out, H4.out, H5.out, H6.out⟩
    · have ka := Keep.alloc (fun k => k = ob) w5 (.cells #[.int .u8 (v : Int)] 5)
      have kc := keep_cell (w5.alloc (.cells #[.int .u8 (v : Int)] 5)) ob 8 (.slice (some ⟨w5.heap.size, 0, none⟩) 1 1)
      have ks := ka.more kc
      have hck := HV5.out.keep (T := 32) (by decide) (by decide) (by decide) ks (fun k e => by have e : k = ob := e; subst e; exact ⟨_, _, HO_4.out, .inr rfl⟩)
      have HOa := hide ((Keep.alloc (fun _ => False) w5 (.cells #[.int .u8 (v : Int)] 5)).blk HO_4.out (fun f => f))
      have hob := blk_lt HO_4.out
      have hro : (w5.alloc (.cells #[.int .u8 (v : Int)] 5)).ownsRow 0 5 1 (.slice (some ⟨w5.heap.size, 0, none⟩) 1 1) 1 (B8 [v]) := World.ownsRow_lit w5 #[.int .u8 (v : Int)] 1 (Nat.zero_le _) (by decide) rfl
      have hro2 := own_keep hro kc (fun i e h => by have e : i = ob := e; have h : some w5.heap.size = some i := h; injection h with h; omega)
      have H1 : Hid (((w5.alloc (.cells #[.int .u8 (v : Int)] 5)).setCell ⟨ob, 8, none⟩ (.slice (some ⟨w5.heap.size, 0, none⟩) 1 1)).heap[ob]? = some (.cells #[.int .i64 oki, .string onm, .int .i64 odl, .slice ox1 ox2 ox3, .string oky, .int .i64 ola, .int .i64 owo, .int .i64 otk, .slice (some ⟨w5.heap.size, 0, none⟩) 1 1, .int .i64 oru, .int .u64 olu, .int .i64 oti] 32 (0, 0))) := set_blk HOa.out 8 _
      have H2 : Hid (OvV (setP d (vals v) 5) ((w5.alloc (.cells #[.int .u8 (v : Int)] 5)).setCell ⟨ob, 8, none⟩ (.slice (some ⟨w5.heap.size, 0, none⟩) 1 1)) (.agg #[.int .i64 oki, .string onm, .int .i64 odl, .slice ox1 ox2 ox3, .string oky, .int .i64 ola, .int .i64 owo, .int .i64 otk, .slice (some ⟨w5.heap.size, 0, none⟩) 1 1, .int .i64 oru, .int .u64 olu, .int .i64 oti])) := ⟨oki, onm, odl, ox1, ox2, ox3, oky, ola, owo, otk, (some ⟨w5.heap.size, 0, none⟩), 1, 1, oru, olu, oti, rfl, ⟨HE.out.1, HE.out.2.1, HE.out.2.2.1, HE.out.2.2.2.1, HE.out.2.2.2.2.1, HE.out.2.2.2.2.2.1, HE.out.2.2.2.2.2.2.1, HE.out.2.2.2.2.2.2.2.1, HE.out.2.2.2.2.2.2.2.2.1, HE.out.2.2.2.2.2.2.2.2.2⟩, hck.2.1, hro2⟩
      have H3 := hide (ks.blk HW_4.out fun e => by have e : wb = ob := e; omega)
      have H4 : Hid (OvV d ((w5.alloc (.cells #[.int .u8 (v : Int)] 5)).setCell ⟨ob, 8, none⟩ (.slice (some ⟨w5.heap.size, 0, none⟩) 1 1)) (.agg #[.int .i64 oki, .string onm, .int .i64 odl, .slice ox1 ox2 ox3, .string oky, .int .i64 ola, .int .i64 owo, .int .i64 otk, .slice oy1 oy2 oy3, .int .i64 oru, .int .u64 olu, .int .i64 oti])) := ⟨oki, onm, odl, ox1, ox2, ox3, oky, ola, owo, otk, oy1, oy2, oy3, oru, olu, oti, rfl, hck⟩
      have H5 := hide (ks.blk HD_4.out fun e => by have e : w.heap.size = ob := e; omega)
      have H6 := hide (HB4.out.trans (ks.below HB4.out.size fun i e => by have e : i = ob := e; omega))
      have c8 := cell_blk HOa.out 8 (v := .slice oy1 oy2 oy3) rfl
      have z8 := frozen_blk HOa.out 8
      clear ka kc ks hck hro hro2 hob HD_4 HQ_4 HV_4 HV5 HO_4 HOa HW_4 HB4
      go_wp2_with fail
      go_meet
      case rel => exact ⟨oki, onm, odl, ox1, ox2, ox3, oky, ola, owo, otk, (some ⟨w5.heap.size, 0, none⟩), 1, 1, oru, olu, oti, H1.out, H2.out, H3.out, H4.out, H5.out, H6.out⟩
    · have ks := keep_cell w5 ob 9 (.int .i64 (v : Int))
      have hck := HV5.out.keep (T := 32) (by decide) (by decide) (by decide) ks (fun k e => by have e : k = ob := e; subst e; exact ⟨_, _, HO_4.out, .inr rfl⟩)
      have H1 : Hid ((w5.setCell ⟨ob, 9, none⟩ (.int .i64 (v : Int))).heap[ob]? = some (.cells #[.int .i64 oki, .string onm, .int .i64 odl, .slice ox1 ox2 ox3, .string oky, .int .i64 ola, .int .i64 owo, .int .i64 otk, .slice oy1 oy2 oy3, .int .i64 (v : Int), .int .u64 olu, .int .i64 oti] 32 (0, 0))) := set_blk HO_4.out 9 _
      have H2 : Hid (OvV (setP d (vals v) 6) (w5.setCell ⟨ob, 9, none⟩ (.int .i64 (v : Int))) (.agg #[.int .i64 oki, .string onm, .int .i64 odl, .slice ox1 ox2 ox3, .string oky, .int .i64 ola, .int .i64 owo, .int .i64 otk, .slice oy1 oy2 oy3, .int .i64 (v : Int), .int .u64 olu, .int .i64 oti])) := ⟨oki, onm, odl, ox1, ox2, ox3, oky, ola, owo, otk, oy1, oy2, oy3, (v : Int), olu, oti, rfl, ⟨HE.out.1, HE.out.2.1, HE.out.2.2.1, HE.out.2.2.2.1, HE.out.2.2.2.2.1, HE.out.2.2.2.2.2.1, HE.out.2.2.2.2.2.2.1, rfl, HE.out.2.2.2.2.2.2.2.2.1, HE.out.2.2.2.2.2.2.2.2.2⟩, hck.2⟩
      have H3 := hide (ks.blk HW_4.out fun e => by have e : wb = ob := e; omega)
      have H4 : Hid (OvV d (w5.setCell ⟨ob, 9, none⟩ (.int .i64 (v : Int))) (.agg #[.int .i64 oki, .string onm, .int .i64 odl, .slice ox1 ox2 ox3, .string oky, .int .i64 ola, .int .i64 owo, .int .i64 otk, .slice oy1 oy2 oy3, .int .i64 oru, .int .u64 olu, .int .i64 oti])) := ⟨oki, onm, odl, ox1, ox2, ox3, oky, ola, owo, otk, oy1, oy2, oy3, oru, olu, oti, rfl, hck⟩
      have H5 := hide (ks.blk HD_4.out fun e => by have e : w.heap.size = ob := e; omega)
      have H6 := hide (HB4.out.trans (ks.below HB4.out.size fun i e => by have e : i = ob := e; omega))
      have c9 := cell_blk HO_4.out 9 (v := .int .i64 oru) rfl
      have z9 := frozen_blk HO_4.out 9
      clear ks hck HD_4 HQ_4 HV_4 HV5 HO_4 HW_4 HB4
      go_wp2_with (go_at_call 19; refine (PL.out _).mono ?_; rintro e w' ⟨rfl, hw⟩; rw [hw]; clear hw w')
      go_meet
      case rel => exact ⟨oki, onm, odl, ox1, ox2, ox3, oky, ola, owo, otk, oy1, oy2, oy3, (v : Int), olu, oti, H1.out, H2.out, H3.out, H4.out, H5.out, H6.out⟩
    · have ks := keep_cell w5 ob 10 (.int .u64 (v : Int))
      have hck := HV5.out.keep (T := 32) (by decide) (by decide) (by decide) ks (fun k e => by have e : k = ob := e; subst e; exact ⟨_, _, HO_4.out, .inr rfl⟩)
      have H1 : Hid ((w5.setCell ⟨ob, 10, none⟩ (.int .u64 (v : Int))).heap[ob]? = some (.cells #[.int .i64 oki, .string onm, .int .i64 odl, .slice ox1 ox2 ox3, .string oky, .int .i64 ola, .int .i64 owo, .int .i64 otk, .slice oy1 oy2 oy3, .int .i64 oru, .int .u64 (v : Int), .int .i64 oti] 32 (0, 0))) := set_blk HO_4.out 10 _
      have H2 : Hid (OvV (setP d (vals v) 7) (w5.setCell ⟨ob, 10, none⟩ (.int .u64 (v : Int))) (.agg #[.int .i64 oki, .string onm, .int .i64 odl, .slice ox1 ox2 ox3, .string oky, .int .i64 ola, .int .i64 owo, .int .i64 otk, .slice oy1 oy2 oy3, .int .i64 oru, .int .u64 (v : Int), .int .i64 oti])) := ⟨oki, onm, odl, ox1, ox2, ox3, oky, ola, owo, otk, oy1, oy2, oy3, oru, (v : Int), oti, rfl, ⟨HE.out.1, HE.out.2.1, HE.out.2.2.1, HE.out.2.2.2.1, HE.out.2.2.2.2.1, HE.out.2.2.2.2.2.1, HE.out.2.2.2.2.2.2.1, HE.out.2.2.2.2.2.2.2.1, rfl, HE.out.2.2.2.2.2.2.2.2.2⟩, hck.2⟩
      have H3 := hide (ks.blk HW_4.out fun e => by have e : wb = ob := e; omega)
      have H4 : Hid (OvV d (w5.setCell ⟨ob, 10, none⟩ (.int .u64 (v : Int))) (.agg #[.int .i64 oki, .string onm, .int .i64 odl, .slice ox1 ox2 ox3, .string oky, .int .i64 ola, .int .i64 owo, .int .i64 otk, .slice oy1 oy2 oy3, .int .i64 oru, .int .u64 olu, .int .i64 oti])) := ⟨oki, onm, odl, ox1, ox2, ox3, oky, ola, owo, otk, oy1, oy2, oy3, oru, olu, oti, rfl, hck⟩
      have H5 := hide (ks.blk HD_4.out fun e => by have e : w.heap.size = ob := e; omega)
      have H6 := hide (HB4.out.trans (ks.below HB4.out.size fun i e => by have e : i = ob := e; omega))
      have c10 := cell_blk HO_4.out 10 (v := .int .u64 olu) rfl
      have z10 := frozen_blk HO_4.out 10
      clear ks hck HD_4 HQ_4 HV_4 HV5 HO_4 HW_4 HB4
      go_wp2_with (go_at_call 19; refine (PL.out _).mono ?_; rintro e w' ⟨rfl, hw⟩; rw [hw]; clear hw w')
      go_meet
      case rel => exact ⟨oki, onm, odl, ox1, ox2, ox3, oky, ola, owo, otk, oy1, oy2, oy3, oru, (v : Int), oti, H1.out, H2.out, H3.out, H4.out, H5.out, H6.out⟩
    · have ks := keep_cell w5 ob 11 (.int .i64 (v : Int))
      have hck := HV5.out.keep (T := 32) (by decide) (by decide) (by decide) ks (fun k e => by have e : k = ob := e; subst e; exact ⟨_, _, HO_4.out, .inr rfl⟩)
      have H1 : Hid ((w5.setCell ⟨ob, 11, none⟩ (.int .i64 (v : Int))).heap[ob]? = some (.cells #[.int .i64 oki, .string onm, .int .i64 odl, .slice ox1 ox2 ox3, .string oky, .int .i64 ola, .int .i64 owo, .int .i64 otk, .slice oy1 oy2 oy3, .int .i64 oru, .int .u64 olu, .int .i64 (v : Int)] 32 (0, 0))) := set_blk HO_4.out 11 _
      have H2 : Hid (OvV (setP d (vals v) 8) (w5.setCell ⟨ob, 11, none⟩ (.int .i64 (v : Int))) (.agg #[.int .i64 oki, .string onm, .int .i64 odl, .slice ox1 ox2 ox3, .string oky, .int .i64 ola, .int .i64 owo, .int .i64 otk, .slice oy1 oy2 oy3, .int .i64 oru, .int .u64 olu, .int .i64 (v : Int)])) := ⟨oki, onm, odl, ox1, ox2, ox3, oky, ola, owo, otk, oy1, oy2, oy3, oru, olu, (v : Int), rfl, ⟨HE.out.1, HE.out.2.1, HE.out.2.2.1, HE.out.2.2.2.1, HE.out.2.2.2.2.1, HE.out.2.2.2.2.2.1, HE.out.2.2.2.2.2.2.1, HE.out.2.2.2.2.2.2.2.1, HE.out.2.2.2.2.2.2.2.2.1, rfl⟩, hck.2⟩
      have H3 := hide (ks.blk HW_4.out fun e => by have e : wb = ob := e; omega)
      have H4 : Hid (OvV d (w5.setCell ⟨ob, 11, none⟩ (.int .i64 (v : Int))) (.agg #[.int .i64 oki, .string onm, .int .i64 odl, .slice ox1 ox2 ox3, .string oky, .int .i64 ola, .int .i64 owo, .int .i64 otk, .slice oy1 oy2 oy3, .int .i64 oru, .int .u64 olu, .int .i64 oti])) := ⟨oki, onm, odl, ox1, ox2, ox3, oky, ola, owo, otk, oy1, oy2, oy3, oru, olu, oti, rfl, hck⟩
      have H5 := hide (ks.blk HD_4.out fun e => by have e : w.heap.size = ob := e; omega)
      have H6 := hide (HB4.out.trans (ks.below HB4.out.size fun i e => by have e : i = ob := e; omega))
      have c11 := cell_blk HO_4.out 11 (v := .int .i64 oti) rfl
      have z11 := frozen_blk HO_4.out 11
      clear ks hck HD_4 HQ_4 HV_4 HV5 HO_4 HW_4 HB4
      go_wp2_with (go_at_call 19; refine (PL.out _).mono ?_; rintro e w' ⟨rfl, hw⟩; rw [hw]; clear hw w')
      go_meet
      case rel => exact ⟨oki, onm, odl, ox1, ox2, ox3, oky, ola, owo, otk, oy1, oy2, oy3, oru, olu, (v : Int), H1.out, H2.out, H3.out, H4.out, H5.out, H6.out⟩
  case rest =>
    obtain ⟨eki, enm, edl, ex1, ex2, ex3, eky, ela, ewo, etk, ey1, ey2, ey3, eru, elu, eti, HC⟩ := hcut
    obtain ⟨h1, h2, h3, h4, h5, h6⟩ := HC.out
    have hek : eki = d.ki := (ovC_of h2).1.1.trans (set_ki d v j)
    obtain ⟨i, gg, hi, hi9, hcl, hgb⟩ := used_at wc (k := eki) (by rw [hek]; exact HDK.out.2)
    have hub := used_bel wc
    have KO := hide (blkB h1 hub)
    have KE := hide (h2.bel hub)
    have KB := hide (blkB h3 hub)
    have KW := hide (h4.bel hub)
    have KD := hide (blkB h5 hub)
    have KL := hide (h6.trans (hub.mono h6.size))
    have KG := hide hgb
    obtain ⟨pn, hpn⟩ : ∃ n, (prts eki).length = n := ⟨_, rfl⟩
    rw [hpn] at hcl
    have HPN := hide hpn
    have HEK := hide hek
    have hwi : IntKind.i64.wrap (eki - 1) = (i : Int) := by rw [hi]; simp [IntKind.wrap, IntKind.bits, IntKind.signed]; omega
    have hi9' : (i : Int) < 9 := by omega
    have HOW := hide (And.intro hdo how)
    clear h1 h2 h3 h4 h5 h6 hub hgb HC hpn hek HB4 HD_4 HQ_4 HV_4 HV5 HO_4 HW_4 hdo how
    go_upto_region 26 with fail
    change Code.wp _ _ _ _ (UsedW wc)
    generalize UsedW wc = w6 at *
    generalize wc.heap.size + 1 + 1 + 1 + 1 + 1 + 1 + 1 + 1 + 1 = G at *
    have f0 := cell_blk KO.out 0 (v := .int .i64 eki) rfl
    go_wp2_with fail
    clear f0 hcl hwi hi9' hi9 hi
    have hpb : pn ≤ 2 := HPN.out ▸ prts_two eki
    go_loopw [12] (fun iv wr => ∃ t : Nat, iv = .int .i64 (t : Nat) ∧ t ≤ pn ∧ Hid (Below w6.heap.size w6 wr ∧ ∀ t' : Nat, t' < t → (prts eki)[t']? ≠ some j)) (fun iv _ => pn - (intOf iv).toNat)
    case atStart => exact ⟨0, rfl, Nat.zero_le _, Below.refl _ _, fun t h => absurd h (Nat.not_lt_zero _)⟩
    case round =>
      obtain ⟨t, rfl, ht, HD⟩ := hrel
      by_cases hlt : t < pn
      · have hlt' : (t : Int) < (pn : Int) := by omega
        obtain ⟨x, hx⟩ : ∃ x, (prts eki)[t]? = some x := ⟨_, List.getElem?_eq_getElem (by rw [HPN.out]; exact hlt)⟩
        have hg : wr.cell? ⟨gg, t, none⟩ = some (.int .i64 (x : Int)) := cell_blk (blkB KG.out HD.out.1) t (by simp [hx])
        have e1 := fun u : Behind wr => u.cell hg
        have HX := hide hx
        clear hx hg
        haveI := behindNE wr
        go_wp2_with fail
        refine quiet_behind (by kernel_rfl) (by kernel_rfl) ?_
        repeat (go_big_quiet_step ((go_at_call 19; exact calls_behind' _ (PJ.out _))))
        refine wpQuiet_nil ?_
        intro w7 hw'
        obtain ⟨uu, eu⟩ := hw'
        have hb : Below wr.heap.size wr w7 := by rw [eu]; exact uu.2
        have HB7 := hide (HD.out.1.trans (hb.mono HD.out.1.size))
        clear eu uu e1 hb
        by_cases hxj : x = j
        · subst hxj
          have HOK : Hid (OvK (setP d (vals v) x)) := HOKj.out (by rw [← HEK.out]; exact List.mem_of_getElem? HX.out)
          have CK := hide (check_good (KE.out.bel HB7.out) HOK.out)
          have HO7 := hide (blkB KO.out HB7.out)
          have c0 := cell_blk HO7.out 0 (v := .int .i64 eki) rfl
          have c1 := cell_blk HO7.out 1 (v := .string enm) rfl
          have c2 := cell_blk HO7.out 2 (v := .int .i64 edl) rfl
          have c3 := cell_blk HO7.out 3 (v := .slice ex1 ex2 ex3) rfl
          have c4 := cell_blk HO7.out 4 (v := .string eky) rfl
          have c5 := cell_blk HO7.out 5 (v := .int .i64 ela) rfl
          have c6 := cell_blk HO7.out 6 (v := .int .i64 ewo) rfl
          have c7 := cell_blk HO7.out 7 (v := .int .i64 etk) rfl
          have c8 := cell_blk HO7.out 8 (v := .slice ey1 ey2 ey3) rfl
          have c9 := cell_blk HO7.out 9 (v := .int .i64 eru) rfl
          have c10 := cell_blk HO7.out 10 (v := .int .u64 elu) rfl
          have c11 := cell_blk HO7.out 11 (v := .int .i64 eti) rfl
          go_wp2_with fail
          try (go_at_call 13)
          refine CK.out.mono ?_
          rintro e w8 ⟨rfl, hb8⟩
          have HB8 := hide ((KL.out.trans (HB7.out.mono KL.out.size)))
          have HB9 := hide (HB8.out.trans (hb8.mono HB8.out.size))
          clear hb8 c0 c1 c2 c3 c4 c5 c6 c7 c8 c9 c10 c11
          go_wp2_with fail
          go_ret
          exact ⟨rfl, HB9.out⟩
        · have hne : ((x : Int) == (j : Int)) = false := by simp; omega
          have HN : Hid (∀ t' : Nat, t' < t + 1 → (prts eki)[t']? ≠ some j) := fun t' h he => by
            by_cases e : t' = t
            · subst e
              rw [HX.out] at he
              exact hxj (Option.some.inj he)
            · exact HD.out.2 t' (by omega) he
          clear hxj
          go_wp2_with fail
          go_roundw
          · exact ⟨t + 1, rfl, by omega, HB7.out, HN.out⟩
          · show pn - ((t : Int) + 1).toNat < pn - (t : Int).toNat
            omega
      · have HNJ : Hid (¬ j ∈ prts d.ki) := fun h => by
          rw [← HEK.out] at h
          obtain ⟨i, hi⟩ := List.mem_iff_getElem?.1 h
          exact HD.out.2 i (by have := (List.getElem?_eq_some_iff.1 hi).1; rw [HPN.out] at this; omega) hi
        obtain rfl : t = pn := by omega
        have hnl : ¬ (t : Int) < (t : Int) := by omega
        have hwk : IntKind.i64.wrap (kk + 10) = kk + 10 := by simp [IntKind.wrap, IntKind.bits, IntKind.signed]; omega
        rcases HNO.out HNJ.out with hno | hsame
        · have HN1 := hide hno
          have KL8 := hide (KL.out.trans (HD.out.1.mono KL.out.size))
          have KO8 := hide (blkB KO.out HD.out.1)
          have KE8 := hide (KE.out.bel HD.out.1)
          have KB8 := hide (blkB KB.out HD.out.1)
          have KW8 := hide (KW.out.bel HD.out.1)
          clear KO KE KB KW KD KG KL HD hno HNJ HNO HOKj hlt ht hpb
          have c0 := cell_blk KO8.out 0 (v := .int .i64 eki) rfl
          have c1 := cell_blk KO8.out 1 (v := .string enm) rfl
          have c2 := cell_blk KO8.out 2 (v := .int .i64 edl) rfl
          have c3 := cell_blk KO8.out 3 (v := .slice ex1 ex2 ex3) rfl
          have c4 := cell_blk KO8.out 4 (v := .string eky) rfl
          have c5 := cell_blk KO8.out 5 (v := .int .i64 ela) rfl
          have c6 := cell_blk KO8.out 6 (v := .int .i64 ewo) rfl
          have c7 := cell_blk KO8.out 7 (v := .int .i64 etk) rfl
          have c8 := cell_blk KO8.out 8 (v := .slice ey1 ey2 ey3) rfl
          have c9 := cell_blk KO8.out 9 (v := .int .i64 eru) rfl
          have c10 := cell_blk KO8.out 10 (v := .int .u64 elu) rfl
          have c11 := cell_blk KO8.out 11 (v := .int .i64 eti) rfl
          go_wp2_with fail
          try (go_at_call 11)
          refine (opBytes_no KE8.out HSB.out HSK.out HSL.out HN1.out).mono ?_
          rintro e w8 ⟨x8, rfl, ⟨xa, xn, xc, rfl⟩, hb⟩
          have KL9 := hide (KL8.out.trans (hb.mono KL8.out.size))
          have KO9 := hide (blkB KO8.out hb)
          have KE9 := hide (KE8.out.bel hb)
          have KB9 := hide (blkB KB8.out hb)
          have KW9 := hide (KW8.out.bel hb)
          clear hb KL8 KO8 KE8 KB8 KW8 c0 c1 c2 c3 c4 c5 c6 c7 c8 c9 c10 c11
          have c0 := cell_blk KB9.out 0 (v := .int .i64 oki) rfl
          have z0 := frozen_blk KB9.out 0
          go_upto_region 34 with (go_at_call 19; refine (PK.out _).mono ?_; rintro e w' ⟨rfl, hw⟩; rw [hw]; clear hw w')
          have ks := keep_cell w8 wb 0 (.int .i64 (kk + 10))
          have hw1 := HOW.out.1
          have hw2 := HOW.out.2
          have hE := (ovC_of KE9.out).keep (T := 32) (by decide) (by decide) (by decide) ks (fun k e => by have e : k = wb := e; subst e; exact ⟨_, _, KB9.out, .inr rfl⟩)
          have hW := (ovC_of KW9.out).keep (T := 32) (by decide) (by decide) (by decide) ks (fun k e => by have e : k = wb := e; subst e; exact ⟨_, _, KB9.out, .inr rfl⟩)
          have KW10 : Hid (OvV { d with ki := kk + 10 } (w8.setCell ⟨wb, 0, none⟩ (.int .i64 (kk + 10))) (.agg #[.int .i64 (kk + 10), .string onm, .int .i64 odl, .slice ox1 ox2 ox3, .string oky, .int .i64 ola, .int .i64 owo, .int .i64 otk, .slice oy1 oy2 oy3, .int .i64 oru, .int .u64 olu, .int .i64 oti])) := ⟨kk + 10, onm, odl, ox1, ox2, ox3, oky, ola, owo, otk, oy1, oy2, oy3, oru, olu, oti, rfl, ⟨rfl, hW.1.2⟩, hW.2⟩
          have KE10 : Hid (OvV (setP d (vals v) j) (w8.setCell ⟨wb, 0, none⟩ (.int .i64 (kk + 10))) (.agg #[.int .i64 eki, .string enm, .int .i64 edl, .slice ex1 ex2 ex3, .string eky, .int .i64 ela, .int .i64 ewo, .int .i64 etk, .slice ey1 ey2 ey3, .int .i64 eru, .int .u64 elu, .int .i64 eti])) := ⟨eki, enm, edl, ex1, ex2, ex3, eky, ela, ewo, etk, ey1, ey2, ey3, eru, elu, eti, rfl, hE⟩
          have KB10 : Hid ((w8.setCell ⟨wb, 0, none⟩ (.int .i64 (kk + 10))).heap[wb]? = some (.cells #[.int .i64 (kk + 10), .string onm, .int .i64 odl, .slice ox1 ox2 ox3, .string oky, .int .i64 ola, .int .i64 owo, .int .i64 otk, .slice oy1 oy2 oy3, .int .i64 oru, .int .u64 olu, .int .i64 oti] 32 (0, 0))) := set_blk KB9.out 0 _
          have KO10 := hide (ks.blk KO9.out fun e => by have e : ob = wb := e; omega)
          have KL10 := hide (KL9.out.trans (ks.below KL9.out.size fun i e => by have e : i = wb := e; omega))
          clear ks hE hW hw1 hw2 c0 z0 KL9 KO9 KE9 KB9 KW9
          generalize w8.setCell ⟨wb, 0, none⟩ (.int .i64 (kk + 10)) = w9 at *
          have NW := hide (was_no (d := d) (k := kk + 10) (by omega))
          have BW := hide (was_b HDK.out.1.b (kk + 10))
          have KWk : Hid (({ d with ki := kk + 10 } : Ov).ki ≤ 9223372036854775807) := by show kk + 10 ≤ _; omega
          have KWl : Hid (({ d with ki := kk + 10 } : Ov).lu < 18446744073709551616) := HDK.out.1.ok.lu
          have c0 := cell_blk KB10.out 0 (v := .int .i64 (kk + 10)) rfl
          have c1 := cell_blk KB10.out 1 (v := .string onm) rfl
          have c2 := cell_blk KB10.out 2 (v := .int .i64 odl) rfl
          have c3 := cell_blk KB10.out 3 (v := .slice ox1 ox2 ox3) rfl
          have c4 := cell_blk KB10.out 4 (v := .string oky) rfl
          have c5 := cell_blk KB10.out 5 (v := .int .i64 ola) rfl
          have c6 := cell_blk KB10.out 6 (v := .int .i64 owo) rfl
          have c7 := cell_blk KB10.out 7 (v := .int .i64 otk) rfl
          have c8 := cell_blk KB10.out 8 (v := .slice oy1 oy2 oy3) rfl
          have c9 := cell_blk KB10.out 9 (v := .int .i64 oru) rfl
          have c10 := cell_blk KB10.out 10 (v := .int .u64 olu) rfl
          have c11 := cell_blk KB10.out 11 (v := .int .i64 oti) rfl
          go_wp2_with fail
          try (go_at_call 11)
          refine (opBytes_no KW10.out BW.out KWk.out KWl.out NW.out).mono ?_
          rintro e w10 ⟨x10, rfl, ⟨za, zn, zc, rfl⟩, hb⟩
          have KL11 := hide (KL10.out.trans (hb.mono KL10.out.size))
          have KO11 := hide (blkB KO10.out hb)
          have KE11 := hide (KE10.out.bel hb)
          have KB11 := hide (blkB KB10.out hb)
          have KW11 := hide (KW10.out.bel hb)
          clear hb KL10 KO10 KE10 KB10 KW10 c0 c1 c2 c3 c4 c5 c6 c7 c8 c9 c10 c11
          have c0 := cell_blk KO11.out 0 (v := .int .i64 eki) rfl
          have c1 := cell_blk KO11.out 1 (v := .string enm) rfl
          have c2 := cell_blk KO11.out 2 (v := .int .i64 edl) rfl
          have c3 := cell_blk KO11.out 3 (v := .slice ex1 ex2 ex3) rfl
          have c4 := cell_blk KO11.out 4 (v := .string eky) rfl
          have c5 := cell_blk KO11.out 5 (v := .int .i64 ela) rfl
          have c6 := cell_blk KO11.out 6 (v := .int .i64 ewo) rfl
          have c7 := cell_blk KO11.out 7 (v := .int .i64 etk) rfl
          have c8 := cell_blk KO11.out 8 (v := .slice ey1 ey2 ey3) rfl
          have c9 := cell_blk KO11.out 9 (v := .int .i64 eru) rfl
          have c10 := cell_blk KO11.out 10 (v := .int .u64 elu) rfl
          have c11 := cell_blk KO11.out 11 (v := .int .i64 eti) rfl
          go_wp2_with fail
          try (go_at_call 13)
          refine (check_no KE11.out HSB.out HSK.out HSL.out HN1.out).mono ?_
          rintro e w11 ⟨rfl, hb⟩
          have KL12 := hide (KL11.out.trans (hb.mono KL11.out.size))
          have KB12 := hide (blkB KB11.out hb)
          have KW12 := hide (KW11.out.bel hb)
          clear hb KL11 KO11 KE11 KB11 KW11 c0 c1 c2 c3 c4 c5 c6 c7 c8 c9 c10 c11
          have c0 := cell_blk KB12.out 0 (v := .int .i64 (kk + 10)) rfl
          have c1 := cell_blk KB12.out 1 (v := .string onm) rfl
          have c2 := cell_blk KB12.out 2 (v := .int .i64 odl) rfl
          have c3 := cell_blk KB12.out 3 (v := .slice ox1 ox2 ox3) rfl
          have c4 := cell_blk KB12.out 4 (v := .string oky) rfl
          have c5 := cell_blk KB12.out 5 (v := .int .i64 ola) rfl
          have c6 := cell_blk KB12.out 6 (v := .int .i64 owo) rfl
          have c7 := cell_blk KB12.out 7 (v := .int .i64 otk) rfl
          have c8 := cell_blk KB12.out 8 (v := .slice oy1 oy2 oy3) rfl
          have c9 := cell_blk KB12.out 9 (v := .int .i64 oru) rfl
          have c10 := cell_blk KB12.out 10 (v := .int .u64 olu) rfl
          have c11 := cell_blk KB12.out 11 (v := .int .i64 oti) rfl
          have d0 := fun u : Behind w11 => u.cell c0
          have d1 := fun u : Behind w11 => u.cell c1
          have d2 := fun u : Behind w11 => u.cell c2
          have d3 := fun u : Behind w11 => u.cell c3
          have d4 := fun u : Behind w11 => u.cell c4
          have d5 := fun u : Behind w11 => u.cell c5
          have d6 := fun u : Behind w11 => u.cell c6
          have d7 := fun u : Behind w11 => u.cell c7
          have d8 := fun u : Behind w11 => u.cell c8
          have d9 := fun u : Behind w11 => u.cell c9
          have d10 := fun u : Behind w11 => u.cell c10
          have d11 := fun u : Behind w11 => u.cell c11
          have LU := hide (fun u : Behind w11 => check_no (KW12.out.bel u.2) BW.out KWk.out KWl.out NW.out)
          clear c0 c1 c2 c3 c4 c5 c6 c7 c8 c9 c10 c11
          haveI := behindNE w11
          go_wp2_with fail
          refine quiet_behind (by kernel_rfl) (by kernel_rfl) ?_
          repeat (go_big_quiet_step ((go_at_call 13; exact calls_behind _ (LU.out _))))
          refine wpQuiet_nil ?_
          intro w12 hw'
          obtain ⟨uu, eu⟩ := hw'
          have hb : Below w11.heap.size w11 w12 := by rw [eu]; exact uu.2
          have KL13 := hide (KL12.out.trans (hb.mono KL12.out.size))
          clear eu uu hb LU d0 d1 d2 d3 d4 d5 d6 d7 d8 d9 d10 d11 KL12 KB12 KW12
          go_wp2_with fail
          go_ret
          exact ⟨rfl, KL13.out⟩
        · have KDK : Hid (OvK d) := HDK.out.1
          have hsm := hsame
          obtain ⟨ln, hln⟩ : ∃ n, (opBs d).length = n := ⟨_, rfl⟩
          have HLN := hide hln
          have KL8 := hide (KL.out.trans (HD.out.1.mono KL.out.size))
          have KO8 := hide (blkB KO.out HD.out.1)
          have KD8 := hide (blkB KD.out HD.out.1)
          have KE8 : Hid (OvV d wr (.agg #[.int .i64 eki, .string enm, .int .i64 edl, .slice ex1 ex2 ex3, .string eky, .int .i64 ela, .int .i64 ewo, .int .i64 etk, .slice ey1 ey2 ey3, .int .i64 eru, .int .u64 elu, .int .i64 eti])) := by
            have t := KE.out.bel HD.out.1
            rw [hsm] at t
            exact t
          have KB8 := hide (blkB KB.out HD.out.1)
          have KW8 := hide (KW.out.bel HD.out.1)
          clear KO KE KB KW KD KG KL HD hsame hsm hln HNJ HNO HOKj HSB HSK HSL hlt ht hpb
          have c0 := cell_blk KO8.out 0 (v := .int .i64 eki) rfl
          have c1 := cell_blk KO8.out 1 (v := .string enm) rfl
          have c2 := cell_blk KO8.out 2 (v := .int .i64 edl) rfl
          have c3 := cell_blk KO8.out 3 (v := .slice ex1 ex2 ex3) rfl
          have c4 := cell_blk KO8.out 4 (v := .string eky) rfl
          have c5 := cell_blk KO8.out 5 (v := .int .i64 ela) rfl
          have c6 := cell_blk KO8.out 6 (v := .int .i64 ewo) rfl
          have c7 := cell_blk KO8.out 7 (v := .int .i64 etk) rfl
          have c8 := cell_blk KO8.out 8 (v := .slice ey1 ey2 ey3) rfl
          have c9 := cell_blk KO8.out 9 (v := .int .i64 eru) rfl
          have c10 := cell_blk KO8.out 10 (v := .int .u64 elu) rfl
          have c11 := cell_blk KO8.out 11 (v := .int .i64 eti) rfl
          go_wp2_with fail
          try (go_at_call 11)
          refine (opB_out KDK.out HLN.out _ _ KE8.out).mono ?_
          rintro e w8 ⟨xa, xc, rfl, -, -, -, hb⟩
          have KL9 := hide (KL8.out.trans (hb.mono KL8.out.size))
          have KO9 := hide (blkB KO8.out hb)
          have KD9 := hide (blkB KD8.out hb)
          have KE9 := hide (KE8.out.bel hb)
          have KB9 := hide (blkB KB8.out hb)
          have KW9 := hide (KW8.out.bel hb)
          clear hb KL8 KO8 KD8 KE8 KB8 KW8 c0 c1 c2 c3 c4 c5 c6 c7 c8 c9 c10 c11
          have c0 := cell_blk KB9.out 0 (v := .int .i64 oki) rfl
          have z0 := frozen_blk KB9.out 0
          go_upto_region 34 with (go_at_call 19; refine (PK.out _).mono ?_; rintro e w' ⟨rfl, hw⟩; rw [hw]; clear hw w')
          have ks := keep_cell w8 wb 0 (.int .i64 (kk + 10))
          have hw1 := HOW.out.1
          have hw2 := HOW.out.2
          have hE := (ovC_of KE9.out).keep (T := 32) (by decide) (by decide) (by decide) ks (fun k e => by have e : k = wb := e; subst e; exact ⟨_, _, KB9.out, .inr rfl⟩)
          have hW := (ovC_of KW9.out).keep (T := 32) (by decide) (by decide) (by decide) ks (fun k e => by have e : k = wb := e; subst e; exact ⟨_, _, KB9.out, .inr rfl⟩)
          have KW10 : Hid (OvV { d with ki := kk + 10 } (w8.setCell ⟨wb, 0, none⟩ (.int .i64 (kk + 10))) (.agg #[.int .i64 (kk + 10), .string onm, .int .i64 odl, .slice ox1 ox2 ox3, .string oky, .int .i64 ola, .int .i64 owo, .int .i64 otk, .slice oy1 oy2 oy3, .int .i64 oru, .int .u64 olu, .int .i64 oti])) := ⟨kk + 10, onm, odl, ox1, ox2, ox3, oky, ola, owo, otk, oy1, oy2, oy3, oru, olu, oti, rfl, ⟨rfl, hW.1.2⟩, hW.2⟩
          have KE10 : Hid (OvV d (w8.setCell ⟨wb, 0, none⟩ (.int .i64 (kk + 10))) (.agg #[.int .i64 eki, .string enm, .int .i64 edl, .slice ex1 ex2 ex3, .string eky, .int .i64 ela, .int .i64 ewo, .int .i64 etk, .slice ey1 ey2 ey3, .int .i64 eru, .int .u64 elu, .int .i64 eti])) := ⟨eki, enm, edl, ex1, ex2, ex3, eky, ela, ewo, etk, ey1, ey2, ey3, eru, elu, eti, rfl, hE⟩
          have KB10 : Hid ((w8.setCell ⟨wb, 0, none⟩ (.int .i64 (kk + 10))).heap[wb]? = some (.cells #[.int .i64 (kk + 10), .string onm, .int .i64 odl, .slice ox1 ox2 ox3, .string oky, .int .i64 ola, .int .i64 owo, .int .i64 otk, .slice oy1 oy2 oy3, .int .i64 oru, .int .u64 olu, .int .i64 oti] 32 (0, 0))) := set_blk KB9.out 0 _
          have KO10 := hide (ks.blk KO9.out fun e => by have e : ob = wb := e; omega)
          have KD10 := hide (ks.blk KD9.out fun e => by have e : w.heap.size = wb := e; omega)
          have KL10 := hide (KL9.out.trans (ks.below KL9.out.size fun i e => by have e : i = wb := e; omega))
          clear ks hE hW hw1 hw2 c0 z0 KL9 KO9 KD9 KE9 KB9 KW9
          generalize w8.setCell ⟨wb, 0, none⟩ (.int .i64 (kk + 10)) = w9 at *
          have NW := hide (was_no (d := d) (k := kk + 10) (by omega))
          have BW := hide (was_b HDK.out.1.b (kk + 10))
          have KWk : Hid (({ d with ki := kk + 10 } : Ov).ki ≤ 9223372036854775807) := by show kk + 10 ≤ _; omega
          have KWl : Hid (({ d with ki := kk + 10 } : Ov).lu < 18446744073709551616) := HDK.out.1.ok.lu
          have c0 := cell_blk KB10.out 0 (v := .int .i64 (kk + 10)) rfl
          have c1 := cell_blk KB10.out 1 (v := .string onm) rfl
          have c2 := cell_blk KB10.out 2 (v := .int .i64 odl) rfl
          have c3 := cell_blk KB10.out 3 (v := .slice ox1 ox2 ox3) rfl
          have c4 := cell_blk KB10.out 4 (v := .string oky) rfl
          have c5 := cell_blk KB10.out 5 (v := .int .i64 ola) rfl
          have c6 := cell_blk KB10.out 6 (v := .int .i64 owo) rfl
          have c7 := cell_blk KB10.out 7 (v := .int .i64 otk) rfl
          have c8 := cell_blk KB10.out 8 (v := .slice oy1 oy2 oy3) rfl
          have c9 := cell_blk KB10.out 9 (v := .int .i64 oru) rfl
          have c10 := cell_blk KB10.out 10 (v := .int .u64 olu) rfl
          have c11 := cell_blk KB10.out 11 (v := .int .i64 oti) rfl
          go_wp2_with fail
          try (go_at_call 11)
          refine (opBytes_no KW10.out BW.out KWk.out KWl.out NW.out).mono ?_
          rintro e w10 ⟨x10, rfl, ⟨za, zn, zc, rfl⟩, hb⟩
          have KL11 := hide (KL10.out.trans (hb.mono KL10.out.size))
          have KO11 := hide (blkB KO10.out hb)
          have KD11 := hide (blkB KD10.out hb)
          have KE11 := hide (KE10.out.bel hb)
          have KB11 := hide (blkB KB10.out hb)
          have KW11 := hide (KW10.out.bel hb)
          clear hb KL10 KO10 KD10 KE10 KB10 KW10 c0 c1 c2 c3 c4 c5 c6 c7 c8 c9 c10 c11
          have c0 := cell_blk KO11.out 0 (v := .int .i64 eki) rfl
          have c1 := cell_blk KO11.out 1 (v := .string enm) rfl
          have c2 := cell_blk KO11.out 2 (v := .int .i64 edl) rfl
          have c3 := cell_blk KO11.out 3 (v := .slice ex1 ex2 ex3) rfl
          have c4 := cell_blk KO11.out 4 (v := .string eky) rfl
          have c5 := cell_blk KO11.out 5 (v := .int .i64 ela) rfl
          have c6 := cell_blk KO11.out 6 (v := .int .i64 ewo) rfl
          have c7 := cell_blk KO11.out 7 (v := .int .i64 etk) rfl
          have c8 := cell_blk KO11.out 8 (v := .slice ey1 ey2 ey3) rfl
          have c9 := cell_blk KO11.out 9 (v := .int .i64 eru) rfl
          have c10 := cell_blk KO11.out 10 (v := .int .u64 elu) rfl
          have c11 := cell_blk KO11.out 11 (v := .int .i64 eti) rfl
          go_wp2_with fail
          try (go_at_call 13)
          refine (check_good KE11.out KDK.out).mono ?_
          rintro e w11 ⟨rfl, hb⟩
          have KL12 := hide (KL11.out.trans (hb.mono KL11.out.size))
          have KO12 := hide (blkB KO11.out hb)
          have KD12 := hide (blkB KD11.out hb)
          have KE12 := hide (KE11.out.bel hb)
          have KB12 := hide (blkB KB11.out hb)
          have KW12 := hide (KW11.out.bel hb)
          clear hb KL11 KO11 KD11 KE11 KB11 KW11 c0 c1 c2 c3 c4 c5 c6 c7 c8 c9 c10 c11
          go_upto_region 36 with fail
          have HBr := hide (KL12.out.trans (((Below.refl w11.heap.size w11).drew).mono KL12.out.size))
          have KOr : Hid (w11.drew.heap[ob]? = some (.cells #[.int .i64 eki, .string enm, .int .i64 edl, .slice ex1 ex2 ex3, .string eky, .int .i64 ela, .int .i64 ewo, .int .i64 etk, .slice ey1 ey2 ey3, .int .i64 eru, .int .u64 elu, .int .i64 eti] 32 (0, 0))) := KO12.out
          have KDr : Hid (w11.drew.heap[w.heap.size]? = some (.cells #[.int .i64 ki, .slice sa sn sc, .int .i64 nu, .int .i64 wo, .slice ta tn tc, .int .u64 (lu : Int)] 27 (0, 0))) := KD12.out
          have KBr : Hid (w11.drew.heap[wb]? = some (.cells #[.int .i64 (kk + 10), .string onm, .int .i64 odl, .slice ox1 ox2 ox3, .string oky, .int .i64 ola, .int .i64 owo, .int .i64 otk, .slice oy1 oy2 oy3, .int .i64 oru, .int .u64 olu, .int .i64 oti] 32 (0, 0))) := KB12.out
          have KEr := hide (KE12.out.bel (Below.refl w11.heap.size w11).drew)
          have KWr := hide (KW12.out.bel (Below.refl w11.heap.size w11).drew)
          have HS0 : Hid (w11.cell? ⟨ob, 0, none⟩ = some (.int .i64 eki) ∧ w11.cell? ⟨ob, 1, none⟩ = some (.string enm) ∧ w11.cell? ⟨ob, 2, none⟩ = some (.int .i64 edl) ∧ w11.cell? ⟨ob, 3, none⟩ = some (.slice ex1 ex2 ex3) ∧ w11.cell? ⟨ob, 4, none⟩ = some (.string eky) ∧ w11.cell? ⟨ob, 5, none⟩ = some (.int .i64 ela) ∧ w11.cell? ⟨ob, 6, none⟩ = some (.int .i64 ewo) ∧ w11.cell? ⟨ob, 7, none⟩ = some (.int .i64 etk) ∧ w11.cell? ⟨ob, 8, none⟩ = some (.slice ey1 ey2 ey3) ∧ w11.cell? ⟨ob, 9, none⟩ = some (.int .i64 eru) ∧ w11.cell? ⟨ob, 10, none⟩ = some (.int .u64 elu) ∧ w11.cell? ⟨ob, 11, none⟩ = some (.int .i64 eti) ∧ w11.cell? ⟨w.heap.size, 0, none⟩ = some (.int .i64 ki) ∧ w11.cell? ⟨w.heap.size, 1, none⟩ = some (.slice sa sn sc) ∧ w11.cell? ⟨w.heap.size, 2, none⟩ = some (.int .i64 nu) ∧ w11.cell? ⟨w.heap.size, 3, none⟩ = some (.int .i64 wo) ∧ w11.cell? ⟨w.heap.size, 4, none⟩ = some (.slice ta tn tc) ∧ w11.cell? ⟨w.heap.size, 5, none⟩ = some (.int .u64 (lu : Int)) ∧ w11.cell? ⟨wb, 0, none⟩ = some (.int .i64 (kk + 10)) ∧ w11.cell? ⟨wb, 1, none⟩ = some (.string onm) ∧ w11.cell? ⟨wb, 2, none⟩ = some (.int .i64 odl) ∧ w11.cell? ⟨wb, 3, none⟩ = some (.slice ox1 ox2 ox3) ∧ w11.cell? ⟨wb, 4, none⟩ = some (.string oky) ∧ w11.cell? ⟨wb, 5, none⟩ = some (.int .i64 ola) ∧ w11.cell? ⟨wb, 6, none⟩ = some (.int .i64 owo) ∧ w11.cell? ⟨wb, 7, none⟩ = some (.int .i64 otk) ∧ w11.cell? ⟨wb, 8, none⟩ = some (.slice oy1 oy2 oy3) ∧ w11.cell? ⟨wb, 9, none⟩ = some (.int .i64 oru) ∧ w11.cell? ⟨wb, 10, none⟩ = some (.int .u64 olu) ∧ w11.cell? ⟨wb, 11, none⟩ = some (.int .i64 oti)) := ⟨cell_blk KO12.out 0 rfl, cell_blk KO12.out 1 rfl, cell_blk KO12.out 2 rfl, cell_blk KO12.out 3 rfl, cell_blk KO12.out 4 rfl, cell_blk KO12.out 5 rfl, cell_blk KO12.out 6 rfl, cell_blk KO12.out 7 rfl, cell_blk KO12.out 8 rfl, cell_blk KO12.out 9 rfl, cell_blk KO12.out 10 rfl, cell_blk KO12.out 11 rfl, cell_blk KD12.out 0 rfl, cell_blk KD12.out 1 rfl, cell_blk KD12.out 2 rfl, cell_blk KD12.out 3 rfl, cell_blk KD12.out 4 rfl, cell_blk KD12.out 5 rfl, cell_blk KB12.out 0 rfl, cell_blk KB12.out 1 rfl, cell_blk KB12.out 2 rfl, cell_blk KB12.out 3 rfl, cell_blk KB12.out 4 rfl, cell_blk KB12.out 5 rfl, cell_blk KB12.out 6 rfl, cell_blk KB12.out 7 rfl, cell_blk KB12.out 8 rfl, cell_blk KB12.out 9 rfl, cell_blk KB12.out 10 rfl, cell_blk KB12.out 11 rfl⟩
          clear KL12 KO12 KD12 KE12 KB12 KW12
          go_region_held3 (fun wx => wx.cell? ⟨ob, 0, none⟩ = some (.int .i64 eki) ∧ wx.cell? ⟨ob, 1, none⟩ = some (.string enm) ∧ wx.cell? ⟨ob, 2, none⟩ = some (.int .i64 edl) ∧ wx.cell? ⟨ob, 3, none⟩ = some (.slice ex1 ex2 ex3) ∧ wx.cell? ⟨ob, 4, none⟩ = some (.string eky) ∧ wx.cell? ⟨ob, 5, none⟩ = some (.int .i64 ela) ∧ wx.cell? ⟨ob, 6, none⟩ = some (.int .i64 ewo) ∧ wx.cell? ⟨ob, 7, none⟩ = some (.int .i64 etk) ∧ wx.cell? ⟨ob, 8, none⟩ = some (.slice ey1 ey2 ey3) ∧ wx.cell? ⟨ob, 9, none⟩ = some (.int .i64 eru) ∧ wx.cell? ⟨ob, 10, none⟩ = some (.int .u64 elu) ∧ wx.cell? ⟨ob, 11, none⟩ = some (.int .i64 eti) ∧ wx.cell? ⟨w.heap.size, 0, none⟩ = some (.int .i64 ki) ∧ wx.cell? ⟨w.heap.size, 1, none⟩ = some (.slice sa sn sc) ∧ wx.cell? ⟨w.heap.size, 2, none⟩ = some (.int .i64 nu) ∧ wx.cell? ⟨w.heap.size, 3, none⟩ = some (.int .i64 wo) ∧ wx.cell? ⟨w.heap.size, 4, none⟩ = some (.slice ta tn tc) ∧ wx.cell? ⟨w.heap.size, 5, none⟩ = some (.int .u64 (lu : Int)) ∧ wx.cell? ⟨wb, 0, none⟩ = some (.int .i64 (kk + 10)) ∧ wx.cell? ⟨wb, 1, none⟩ = some (.string onm) ∧ wx.cell? ⟨wb, 2, none⟩ = some (.int .i64 odl) ∧ wx.cell? ⟨wb, 3, none⟩ = some (.slice ox1 ox2 ox3) ∧ wx.cell? ⟨wb, 4, none⟩ = some (.string oky) ∧ wx.cell? ⟨wb, 5, none⟩ = some (.int .i64 ola) ∧ wx.cell? ⟨wb, 6, none⟩ = some (.int .i64 owo) ∧ wx.cell? ⟨wb, 7, none⟩ = some (.int .i64 otk) ∧ wx.cell? ⟨wb, 8, none⟩ = some (.slice oy1 oy2 oy3) ∧ wx.cell? ⟨wb, 9, none⟩ = some (.int .i64 oru) ∧ wx.cell? ⟨wb, 10, none⟩ = some (.int .u64 olu) ∧ wx.cell? ⟨wb, 11, none⟩ = some (.int .i64 oti)) (first | (exact HS0.out) | (exact HSr.out) | go_keep) (first
            | (go_at_call 9; refine (OO.out _ (HQ00.out.bel HBr.out)).mono ?_; rintro e wy ⟨vq, rfl, hvq, hb⟩; have HVQ := hide hvq; have HBn := hide (HBr.out.trans (hb.mono HBr.out.size)); have KOn := hide (blkB KOr.out hb); have KDn := hide (blkB KDr.out hb); have KBn := hide (blkB KBr.out hb); have KEn := hide (KEr.out.bel hb); have KWn := hide (KWr.out.bel hb); have HSr : Hid (wy.cell? ⟨ob, 0, none⟩ = some (.int .i64 eki) ∧ wy.cell? ⟨ob, 1, none⟩ = some (.string enm) ∧ wy.cell? ⟨ob, 2, none⟩ = some (.int .i64 edl) ∧ wy.cell? ⟨ob, 3, none⟩ = some (.slice ex1 ex2 ex3) ∧ wy.cell? ⟨ob, 4, none⟩ = some (.string eky) ∧ wy.cell? ⟨ob, 5, none⟩ = some (.int .i64 ela) ∧ wy.cell? ⟨ob, 6, none⟩ = some (.int .i64 ewo) ∧ wy.cell? ⟨ob, 7, none⟩ = some (.int .i64 etk) ∧ wy.cell? ⟨ob, 8, none⟩ = some (.slice ey1 ey2 ey3) ∧ wy.cell? ⟨ob, 9, none⟩ = some (.int .i64 eru) ∧ wy.cell? ⟨ob, 10, none⟩ = some (.int .u64 elu) ∧ wy.cell? ⟨ob, 11, none⟩ = some (.int .i64 eti) ∧ wy.cell? ⟨w.heap.size, 0, none⟩ = some (.int .i64 ki) ∧ wy.cell? ⟨w.heap.size, 1, none⟩ = some (.slice sa sn sc) ∧ wy.cell? ⟨w.heap.size, 2, none⟩ = some (.int .i64 nu) ∧ wy.cell? ⟨w.heap.size, 3, none⟩ = some (.int .i64 wo) ∧ wy.cell? ⟨w.heap.size, 4, none⟩ = some (.slice ta tn tc) ∧ wy.cell? ⟨w.heap.size, 5, none⟩ = some (.int .u64 (lu : Int)) ∧ wy.cell? ⟨wb, 0, none⟩ = some (.int .i64 (kk + 10)) ∧ wy.cell? ⟨wb, 1, none⟩ = some (.string onm) ∧ wy.cell? ⟨wb, 2, none⟩ = some (.int .i64 odl) ∧ wy.cell? ⟨wb, 3, none⟩ = some (.slice ox1 ox2 ox3) ∧ wy.cell? ⟨wb, 4, none⟩ = some (.string oky) ∧ wy.cell? ⟨wb, 5, none⟩ = some (.int .i64 ola) ∧ wy.cell? ⟨wb, 6, none⟩ = some (.int .i64 owo) ∧ wy.cell? ⟨wb, 7, none⟩ = some (.int .i64 otk) ∧ wy.cell? ⟨wb, 8, none⟩ = some (.slice oy1 oy2 oy3) ∧ wy.cell? ⟨wb, 9, none⟩ = some (.int .i64 oru) ∧ wy.cell? ⟨wb, 10, none⟩ = some (.int .u64 olu) ∧ wy.cell? ⟨wb, 11, none⟩ = some (.int .i64 oti)) := ⟨cell_blk KOn.out 0 rfl, cell_blk KOn.out 1 rfl, cell_blk KOn.out 2 rfl, cell_blk KOn.out 3 rfl, cell_blk KOn.out 4 rfl, cell_blk KOn.out 5 rfl, cell_blk KOn.out 6 rfl, cell_blk KOn.out 7 rfl, cell_blk KOn.out 8 rfl, cell_blk KOn.out 9 rfl, cell_blk KOn.out 10 rfl, cell_blk KOn.out 11 rfl, cell_blk KDn.out 0 rfl, cell_blk KDn.out 1 rfl, cell_blk KDn.out 2 rfl, cell_blk KDn.out 3 rfl, cell_blk KDn.out 4 rfl, cell_blk KDn.out 5 rfl, cell_blk KBn.out 0 rfl, cell_blk KBn.out 1 rfl, cell_blk KBn.out 2 rfl, cell_blk KBn.out 3 rfl, cell_blk KBn.out 4 rfl, cell_blk KBn.out 5 rfl, cell_blk KBn.out 6 rfl, cell_blk KBn.out 7 rfl, cell_blk KBn.out 8 rfl, cell_blk KBn.out 9 rfl, cell_blk KBn.out 10 rfl, cell_blk KBn.out 11 rfl⟩; clear HBr KOr KDr KBr KEr KWr hb; have HBr := hide HBn.out; have KOr := hide KOn.out; have KDr := hide KDn.out; have KBr := hide KBn.out; have KEr := hide KEn.out; have KWr := hide KWn.out; clear HBn KOn KDn KBn KEn KWn)
            | (go_at_call 16; refine (like_same KDK.out _ _ _ KEr.out HVQ.out).mono ?_; rintro e wy ⟨rfl, hb⟩; have HBn := hide (HBr.out.trans (hb.mono HBr.out.size)); have KOn := hide (blkB KOr.out hb); have KDn := hide (blkB KDr.out hb); have KBn := hide (blkB KBr.out hb); have KEn := hide (KEr.out.bel hb); have KWn := hide (KWr.out.bel hb); have HSr : Hid (wy.cell? ⟨ob, 0, none⟩ = some (.int .i64 eki) ∧ wy.cell? ⟨ob, 1, none⟩ = some (.string enm) ∧ wy.cell? ⟨ob, 2, none⟩ = some (.int .i64 edl) ∧ wy.cell? ⟨ob, 3, none⟩ = some (.slice ex1 ex2 ex3) ∧ wy.cell? ⟨ob, 4, none⟩ = some (.string eky) ∧ wy.cell? ⟨ob, 5, none⟩ = some (.int .i64 ela) ∧ wy.cell? ⟨ob, 6, none⟩ = some (.int .i64 ewo) ∧ wy.cell? ⟨ob, 7, none⟩ = some (.int .i64 etk) ∧ wy.cell? ⟨ob, 8, none⟩ = some (.slice ey1 ey2 ey3) ∧ wy.cell? ⟨ob, 9, none⟩ = some (.int .i64 eru) ∧ wy.cell? ⟨ob, 10, none⟩ = some (.int .u64 elu) ∧ wy.cell? ⟨ob, 11, none⟩ = some (.int .i64 eti) ∧ wy.cell? ⟨w.heap.size, 0, none⟩ = some (.int .i64 ki) ∧ wy.cell? ⟨w.heap.size, 1, none⟩ = some (.slice sa sn sc) ∧ wy.cell? ⟨w.heap.size, 2, none⟩ = some (.int .i64 nu) ∧ wy.cell? ⟨w.heap.size, 3, none⟩ = some (.int .i64 wo) ∧ wy.cell? ⟨w.heap.size, 4, none⟩ = some (.slice ta tn tc) ∧ wy.cell? ⟨w.heap.size, 5, none⟩ = some (.int .u64 (lu : Int)) ∧ wy.cell? ⟨wb, 0, none⟩ = some (.int .i64 (kk + 10)) ∧ wy.cell? ⟨wb, 1, none⟩ = some (.string onm) ∧ wy.cell? ⟨wb, 2, none⟩ = some (.int .i64 odl) ∧ wy.cell? ⟨wb, 3, none⟩ = some (.slice ox1 ox2 ox3) ∧ wy.cell? ⟨wb, 4, none⟩ = some (.string oky) ∧ wy.cell? ⟨wb, 5, none⟩ = some (.int .i64 ola) ∧ wy.cell? ⟨wb, 6, none⟩ = some (.int .i64 owo) ∧ wy.cell? ⟨wb, 7, none⟩ = some (.int .i64 otk) ∧ wy.cell? ⟨wb, 8, none⟩ = some (.slice oy1 oy2 oy3) ∧ wy.cell? ⟨wb, 9, none⟩ = some (.int .i64 oru) ∧ wy.cell? ⟨wb, 10, none⟩ = some (.int .u64 olu) ∧ wy.cell? ⟨wb, 11, none⟩ = some (.int .i64 oti)) := ⟨cell_blk KOn.out 0 rfl, cell_blk KOn.out 1 rfl, cell_blk KOn.out 2 rfl, cell_blk KOn.out 3 rfl, cell_blk KOn.out 4 rfl, cell_blk KOn.out 5 rfl, cell_blk KOn.out 6 rfl, cell_blk KOn.out 7 rfl, cell_blk KOn.out 8 rfl, cell_blk KOn.out 9 rfl, cell_blk KOn.out 10 rfl, cell_blk KOn.out 11 rfl, cell_blk KDn.out 0 rfl, cell_blk KDn.out 1 rfl, cell_blk KDn.out 2 rfl, cell_blk KDn.out 3 rfl, cell_blk KDn.out 4 rfl, cell_blk KDn.out 5 rfl, cell_blk KBn.out 0 rfl, cell_blk KBn.out 1 rfl, cell_blk KBn.out 2 rfl, cell_blk KBn.out 3 rfl, cell_blk KBn.out 4 rfl, cell_blk KBn.out 5 rfl, cell_blk KBn.out 6 rfl, cell_blk KBn.out 7 rfl, cell_blk KBn.out 8 rfl, cell_blk KBn.out 9 rfl, cell_blk KBn.out 10 rfl, cell_blk KBn.out 11 rfl⟩; clear HBr KOr KDr KBr KEr KWr hb; have HBr := hide HBn.out; have KOr := hide KOn.out; have KDr := hide KDn.out; have KBr := hide KBn.out; have KEr := hide KEn.out; have KWr := hide KWn.out; clear HBn KOn KDn KBn KEn KWn)
            | (go_at_call 13; refine (check_no KWr.out BW.out KWk.out KWl.out NW.out).mono ?_; rintro e wy ⟨rfl, hb⟩; have HBn := hide (HBr.out.trans (hb.mono HBr.out.size)); have KOn := hide (blkB KOr.out hb); have KDn := hide (blkB KDr.out hb); have KBn := hide (blkB KBr.out hb); have KEn := hide (KEr.out.bel hb); have KWn := hide (KWr.out.bel hb); have HSr : Hid (wy.cell? ⟨ob, 0, none⟩ = some (.int .i64 eki) ∧ wy.cell? ⟨ob, 1, none⟩ = some (.string enm) ∧ wy.cell? ⟨ob, 2, none⟩ = some (.int .i64 edl) ∧ wy.cell? ⟨ob, 3, none⟩ = some (.slice ex1 ex2 ex3) ∧ wy.cell? ⟨ob, 4, none⟩ = some (.string eky) ∧ wy.cell? ⟨ob, 5, none⟩ = some (.int .i64 ela) ∧ wy.cell? ⟨ob, 6, none⟩ = some (.int .i64 ewo) ∧ wy.cell? ⟨ob, 7, none⟩ = some (.int .i64 etk) ∧ wy.cell? ⟨ob, 8, none⟩ = some (.slice ey1 ey2 ey3) ∧ wy.cell? ⟨ob, 9, none⟩ = some (.int .i64 eru) ∧ wy.cell? ⟨ob, 10, none⟩ = some (.int .u64 elu) ∧ wy.cell? ⟨ob, 11, none⟩ = some (.int .i64 eti) ∧ wy.cell? ⟨w.heap.size, 0, none⟩ = some (.int .i64 ki) ∧ wy.cell? ⟨w.heap.size, 1, none⟩ = some (.slice sa sn sc) ∧ wy.cell? ⟨w.heap.size, 2, none⟩ = some (.int .i64 nu) ∧ wy.cell? ⟨w.heap.size, 3, none⟩ = some (.int .i64 wo) ∧ wy.cell? ⟨w.heap.size, 4, none⟩ = some (.slice ta tn tc) ∧ wy.cell? ⟨w.heap.size, 5, none⟩ = some (.int .u64 (lu : Int)) ∧ wy.cell? ⟨wb, 0, none⟩ = some (.int .i64 (kk + 10)) ∧ wy.cell? ⟨wb, 1, none⟩ = some (.string onm) ∧ wy.cell? ⟨wb, 2, none⟩ = some (.int .i64 odl) ∧ wy.cell? ⟨wb, 3, none⟩ = some (.slice ox1 ox2 ox3) ∧ wy.cell? ⟨wb, 4, none⟩ = some (.string oky) ∧ wy.cell? ⟨wb, 5, none⟩ = some (.int .i64 ola) ∧ wy.cell? ⟨wb, 6, none⟩ = some (.int .i64 owo) ∧ wy.cell? ⟨wb, 7, none⟩ = some (.int .i64 otk) ∧ wy.cell? ⟨wb, 8, none⟩ = some (.slice oy1 oy2 oy3) ∧ wy.cell? ⟨wb, 9, none⟩ = some (.int .i64 oru) ∧ wy.cell? ⟨wb, 10, none⟩ = some (.int .u64 olu) ∧ wy.cell? ⟨wb, 11, none⟩ = some (.int .i64 oti)) := ⟨cell_blk KOn.out 0 rfl, cell_blk KOn.out 1 rfl, cell_blk KOn.out 2 rfl, cell_blk KOn.out 3 rfl, cell_blk KOn.out 4 rfl, cell_blk KOn.out 5 rfl, cell_blk KOn.out 6 rfl, cell_blk KOn.out 7 rfl, cell_blk KOn.out 8 rfl, cell_blk KOn.out 9 rfl, cell_blk KOn.out 10 rfl, cell_blk KOn.out 11 rfl, cell_blk KDn.out 0 rfl, cell_blk KDn.out 1 rfl, cell_blk KDn.out 2 rfl, cell_blk KDn.out 3 rfl, cell_blk KDn.out 4 rfl, cell_blk KDn.out 5 rfl, cell_blk KBn.out 0 rfl, cell_blk KBn.out 1 rfl, cell_blk KBn.out 2 rfl, cell_blk KBn.out 3 rfl, cell_blk KBn.out 4 rfl, cell_blk KBn.out 5 rfl, cell_blk KBn.out 6 rfl, cell_blk KBn.out 7 rfl, cell_blk KBn.out 8 rfl, cell_blk KBn.out 9 rfl, cell_blk KBn.out 10 rfl, cell_blk KBn.out 11 rfl⟩; clear HBr KOr KDr KBr KEr KWr hb; have HBr := hide HBn.out; have KOr := hide KOn.out; have KDr := hide KDn.out; have KBr := hide KBn.out; have KEr := hide KEn.out; have KWr := hide KWn.out; clear HBn KOn KDn KBn KEn KWn))
          all_goals go_wp2
          all_goals refine bodyPost_ret (results_tmp rfl _ _ _) rfl ?_
          all_goals exact ⟨rfl, HBr.out⟩
end Cd
end Go.Proofs.YtbjcckfhfbjchaaGreat
