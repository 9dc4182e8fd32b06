import Derived.Test.YtoelgcagahmndaaGreatPBackV
import Derived.Test.YtoelgcagahmndaaGreatPBlobR
import Derived.Test.YtoelgcagahmndaaGreatPPu3
import Derived.Laws.Rows
import Derived.Test.YtoelgcagahmndaaGreatPWordR
import Derived.Test.YtoelgcagahmndaaGreatPFlag
import Derived.Test.YtoelgcagahmndaaGreatPListR
/- The law's took: what comes out of a Take, by value. -/
namespace Go.Proofs.YtoelgcagahmndaaGreat
namespace Wm
open Go.RowKit Go.Deep

/-- the types of readers, and of what is told -/
def rdT : List TypeId := [108, 59, 77]
/-- a block that is no reader's -/
def NR (w : World) (k : Nat) : Prop := k < w.heap.size ∧ ∀ cs t fz, w.heap[k]? = some (.cells cs t fz) → t ∉ rdT
/-- a reader's block -/
def IsR (w : World) (k : Nat) : Prop := ∃ cs t fz, w.heap[k]? = some (.cells cs t fz) ∧ t ∈ rdT
theorem NR.ne {w : World} {k : Nat} (h : NR w k) : ¬ IsR w k := by
  rintro ⟨cs, t, fz, h1, h2⟩
  exact h.2 cs t fz h1 h2
theorem NR.keep {w w' : World} {k : Nat} {S : Nat → Prop} (h : NR w k) (hk : Keep S w w') (hS : ∀ k, S k → k < w.heap.size → IsR w k) : NR w' k ∧ ¬ S k := by
  have hn : ¬ S k := fun hs => h.ne (hS k hs h.1)
  exact ⟨⟨Nat.lt_of_lt_of_le h.1 hk.size, fun cs t fz e => h.2 cs t fz (by rw [← hk.block k h.1 hn]; exact e)⟩, hn⟩
theorem els_nr {w w' : World} {S : Nat → Prop} {a : Option Addr} {n : Nat} {vs : List Value} (h : Els (NR w) w a n vs) (hk : Keep S w w') (hS : ∀ k, S k → k < w.heap.size → IsR w k) : Els (NR w') w' a n vs := by
  refine ⟨h.1, h.2.1, h.2.2.imp id ?_⟩
  rintro ⟨b, off, e, hd, hc⟩
  have := hd.keep hk hS
  exact ⟨b, off, e, this.1, fun i v hv => hk.cell (hc i v hv) this.2⟩
theorem rows_nr {w w' : World} {S : Nat → Prop} {a : Option Addr} {n : Nat} {zs : List (List Int)} (h : RowsAt (NR w) w a n zs) (hk : Keep S w w') (hS : ∀ k, S k → k < w.heap.size → IsR w k) : RowsAt (NR w') w' a n zs := by
  obtain ⟨vs, h1, h2, h3⟩ := h
  refine ⟨vs, els_nr h1 hk hS, h2, fun i v z hv hz => ?_⟩
  obtain ⟨a', c', e, he⟩ := h3 i v z hv hz
  exact ⟨a', c', e, els_nr he hk hS⟩
/-- what a Take told -/
structure Td where
  N : Int
  W : Nat
  F : Bool
  S : ByteArray
  T : List ByteArray
  L : List Int
  D : List (List Int)
def td0 : Td := ⟨0, 0, false, ⟨#[]⟩, [], [], []⟩
def TdV (w : World) (v : Value) (t : Td) : Prop :=
  ∃ aT nT cT aL nL cL aD nD cD, v = .agg #[.int .i64 t.N, .int .u64 (t.W : Nat), .bool t.F, .string t.S, .slice aT nT cT, .slice aL nL cL, .slice aD nD cD] ∧ Els (NR w) w aT nT (sv t.T) ∧ Els (NR w) w aL nL (iv t.L) ∧ RowsAt (NR w) w aD nD t.D
theorem TdV.keep {w w' : World} {S : Nat → Prop} {v : Value} {t : Td} (h : TdV w v t) (hk : Keep S w w') (hS : ∀ k, S k → k < w.heap.size → IsR w k) : TdV w' v t := by
  obtain ⟨aT, nT, cT, aL, nL, cL, aD, nD, cD, e, h1, h2, h3⟩ := h
  exact ⟨aT, nT, cT, aL, nL, cL, aD, nD, cD, e, els_nr h1 hk hS, els_nr h2 hk hS, rows_nr h3 hk hS⟩
theorem els0 (w : World) : Els (NR w) w none 0 [] := ⟨rfl, by decide, .inl rfl⟩
theorem rows0 (w : World) : RowsAt (NR w) w none 0 [] := ⟨[], els0 w, rfl, fun i v z h => by cases h⟩
theorem Rr.isR {w : World} {q : Nat} {s : K.RS} (h : Rr w q s) : IsR w q := by
  obtain ⟨a, c, h1, _⟩ := h.ex
  exact ⟨_, _, _, h1, by decide⟩
theorem row_nr {w : World} {b : Nat} {T : TypeId} {v : Value} {n : Nat} {xs : List Value} (h : w.ownsRow b T 1 v n xs) (h1 : T ∉ rdT) (hn : n ≤ 140737488351232) : ∃ a c, v = .slice a n c ∧ Els (NR w) w a n xs := by
  have hx : n = xs.length := by have := h.1; omega
  rcases h.2 with ⟨rfl, h0⟩ | ⟨g, cap, cur, rfl, _, hg, _⟩
  · exact ⟨none, 0, by rw [h0], hx, hn, .inl h0⟩
  · refine ⟨_, cap, rfl, hx, hn, .inr ⟨g, 0, rfl, ⟨(Array.getElem?_eq_some_iff.1 hg).1, fun cs t fz e => ?_⟩, fun i x hx => ?_⟩⟩
    · rw [hg] at e
      injection e with e
      injection e with _ e _
      subst e
      exact h1
    · have := h.cells (g := g) rfl i x hx
      rw [Addr.add_lit] at this
      exact this
/-- a list that was taken, by value -/
theorem listV_nr {α : Type} {enc : α → Value} {val : K.RS → α} {T : TypeId} {most : Int} {g : K.RS → K.RS} {s : K.RS} {w : World} {v : Value} (h : listV T most g (fun s _ v => v = enc (val s)) s w v) (hl : (rest s).length ≤ 16777216) (h1 : T ∉ rdT) :
    ∃ a n c, v = .slice a n c ∧ Els (NR w) w a n ((listVal most g val s).map enc) ∧ n = (listVal most g val s).length := by
  cases hp : cnt most (rest s) with
  | error e => unfold listV at h; rw [hp] at h; cases h
  | ok r =>
    obtain ⟨n, z⟩ := r
    obtain ⟨hpk, hnm, hzn⟩ := cnt_ok hp
    unfold listV at h
    rw [hp] at h
    obtain ⟨vs, hlen, ho, hvs⟩ := h
    obtain ⟨a, c, rfl, hels⟩ := row_nr ho h1 (by omega)
    have hval : listVal most g val s = valsOf g val n (s.go z) := by unfold listVal; rw [hp]
    have hvv : vs = (valsOf g val n (s.go z)).map enc := by
      apply List.ext_getElem?
      intro i
      rcases Nat.lt_or_ge i n with hi | hi
      · rw [List.getElem?_map, valsOf_at g val n _ i hi, List.getElem?_eq_getElem (show i < vs.length by omega)]
        have := hvs i _ (List.getElem?_eq_getElem (show i < vs.length by omega))
        rw [this]
        rfl
      · rw [List.getElem?_eq_none (by omega), List.getElem?_eq_none (by rw [List.length_map, valsOf_len]; exact hi)]
    rw [hval, ← hvv]
    exact ⟨a, n, c, rfl, hels, (valsOf_len _ _ _ _).symm⟩
end Wm
end Go.Proofs.YtoelgcagahmndaaGreat

/- The law's took: each kind's Take, by value. -/
namespace Go.Proofs.YtoelgcagahmndaaGreat
namespace Wm
open Go.RowKit Go.Deep

/-- a take leaves the bytes as they are -/
def Kp (g : K.RS → K.RS) : Prop := ∀ s, (g s).data = s.data
theorem kp_fail (s : K.RS) (e : Nat) : (s.fail e).data = s.data := by unfold K.RS.fail; split <;> rfl
theorem kp_num (le mo : Int) : Kp (numR le mo) := fun s => by
  unfold numR
  split
  · split
    · exact kp_fail _ _
    · rfl
  · exact kp_fail _ _
theorem kp_thing {g : K.RS → K.RS} (h : Kp g) : Kp (thingR g) := fun s => by
  unfold thingR
  split
  · split
    · rw [kp_fail, h]
    · exact h s
  · rfl
theorem kp_all {g : K.RS → K.RS} (h : Kp g) (n : Nat) : Kp (allR g n) := fun s => by
  induction n with
  | zero => rfl
  | succ n ih => show (thingR g (allR g n s)).data = _; rw [kp_thing h, ih]
theorem kp_list {g : K.RS → K.RS} (h : Kp g) (mo : Int) : Kp (listR mo g) := fun s => by
  unfold listR
  split
  · exact kp_all h _ _
  · exact kp_fail _ _
theorem rest_le (s : K.RS) : (rest s).length ≤ s.data.length := by rw [rest_len]; omega
theorem listV_rowsN {val : K.RS → Int} {Ti To : TypeId} {most m0 : Int} {g0 g1 : K.RS → K.RS} {s : K.RS} {w : World} {v : Value} (h : listV To most g1 (listV Ti m0 g0 (fun s _ v => v = Value.int .i64 (val s))) s w v) (hl : s.data.length ≤ 16777216) (hK : Kp g1)
    (h1 : To ∉ rdT) (h3 : Ti ∉ rdT) :
    ∃ a n c, v = .slice a n c ∧ RowsAt (NR w) w a n (listVal most g1 (listVal m0 g0 val) s) := by
  cases hp : cnt most (rest s) with
  | error e => unfold listV at h; rw [hp] at h; cases h
  | ok r =>
    obtain ⟨n, z⟩ := r
    obtain ⟨hpk, hnm, hzn⟩ := cnt_ok hp
    have hrl := rest_le s
    unfold listV at h
    rw [hp] at h
    obtain ⟨vs, hlen, ho, hvs⟩ := h
    obtain ⟨a, c, rfl, hels⟩ := row_nr ho h1 (by omega)
    have hval : listVal most g1 (listVal m0 g0 val) s = valsOf g1 (listVal m0 g0 val) n (s.go z) := by unfold listVal; rw [hp]
    rw [hval]
    refine ⟨a, n, c, rfl, vs, hels, valsOf_len _ _ _ _, fun i x y hx hy => ?_⟩
    have hin : i < n := by have := (List.getElem?_eq_some_iff.1 hx).1; omega
    rw [valsOf_at _ _ _ _ _ hin] at hy
    injection hy with hy
    subst hy
    obtain ⟨a', n', c', rfl, he, hn'⟩ := listV_nr (enc := Value.int .i64) (hvs i x hx) (Nat.le_trans (rest_le _) (by rw [kp_all hK]; exact hl)) h3
    exact ⟨a', c', by rw [← hn'], by rw [← hn']; exact he⟩
/-- the blocks that a form may read: all but the reader -/
def Dq (w : World) (q : Nat) (k : Nat) : Prop := k < w.heap.size ∧ k ≠ q
theorem Dq.agree {w w1 : World} {q : Nat} (h : Below w.heap.size w w1) : Agree (Dq w q) w w1 := (Agree.below h).mono fun _ h => h.1
theorem tkI (q : Nat) (fn1 fn2 : FuncId) (cap1 cap2 : Array Value) (s : K.RS) (g : K.RS → K.RS) (V : K.RS → World → Value → Prop) (hV : ∀ s, Stable (V s)) (w : World) (h : Rr w q s) (ht : TakesG (Dq w q) w fn2 cap2 g V) (he : ∀ args w, (callFunc fn2 args).run Tryz.prog w = .ok (.enter fn2 args) w) :
    Calls Tryz.prog 57 #[.agg #[.func (.func fn1) #[] cap1, .func (.func fn2) #[] cap2], .pointer (some ⟨q, 0, none⟩)] w (Took q (takeR g s) (V s) (.int .i64 0) w) :=
  TakeI q fn1 fn2 cap1 cap2 s (takeR g s) (V s) (hV s) w h (fun hz w1 hb => by unfold takeR; rw [if_pos hz]; exact ht q s w1 (Dq.agree hb) (fun hd => hd.2 rfl) (h.below hb) hz) (fun hz => if_neg hz) he
theorem tkS (q : Nat) (fn1 fn2 : FuncId) (cap1 cap2 : Array Value) (s : K.RS) (g : K.RS → K.RS) (V : K.RS → World → Value → Prop) (hV : ∀ s, Stable (V s)) (w : World) (h : Rr w q s) (ht : TakesG (Dq w q) w fn2 cap2 g V) (he : ∀ args w, (callFunc fn2 args).run Tryz.prog w = .ok (.enter fn2 args) w) :
    Calls Tryz.prog 58 #[.agg #[.func (.func fn1) #[] cap1, .func (.func fn2) #[] cap2], .pointer (some ⟨q, 0, none⟩)] w (Took q (takeR g s) (V s) (.string ⟨#[]⟩) w) :=
  TakeS q fn1 fn2 cap1 cap2 s (takeR g s) (V s) (hV s) w h (fun hz w1 hb => by unfold takeR; rw [if_pos hz]; exact ht q s w1 (Dq.agree hb) (fun hd => hd.2 rfl) (h.below hb) hz) (fun hz => if_neg hz) he
theorem tkLs (q : Nat) (fn1 fn2 : FuncId) (cap1 cap2 : Array Value) (s : K.RS) (g : K.RS → K.RS) (V : K.RS → World → Value → Prop) (hV : ∀ s, Stable (V s)) (w : World) (h : Rr w q s) (ht : TakesG (Dq w q) w fn2 cap2 g V) (he : ∀ args w, (callFunc fn2 args).run Tryz.prog w = .ok (.enter fn2 args) w) :
    Calls Tryz.prog 94 #[.agg #[.func (.func fn1) #[] cap1, .func (.func fn2) #[] cap2], .pointer (some ⟨q, 0, none⟩)] w (Took q (takeR g s) (V s) (.slice none 0 0) w) :=
  TakeLs q fn1 fn2 cap1 cap2 s (takeR g s) (V s) (hV s) w h (fun hz w1 hb => by unfold takeR; rw [if_pos hz]; exact ht q s w1 (Dq.agree hb) (fun hd => hd.2 rfl) (h.below hb) hz) (fun hz => if_neg hz) he
theorem tkLi (q : Nat) (fn1 fn2 : FuncId) (cap1 cap2 : Array Value) (s : K.RS) (g : K.RS → K.RS) (V : K.RS → World → Value → Prop) (hV : ∀ s, Stable (V s)) (w : World) (h : Rr w q s) (ht : TakesG (Dq w q) w fn2 cap2 g V) (he : ∀ args w, (callFunc fn2 args).run Tryz.prog w = .ok (.enter fn2 args) w) :
    Calls Tryz.prog 93 #[.agg #[.func (.func fn1) #[] cap1, .func (.func fn2) #[] cap2], .pointer (some ⟨q, 0, none⟩)] w (Took q (takeR g s) (V s) (.slice none 0 0) w) :=
  TakeLi q fn1 fn2 cap1 cap2 s (takeR g s) (V s) (hV s) w h (fun hz w1 hb => by unfold takeR; rw [if_pos hz]; exact ht q s w1 (Dq.agree hb) (fun hd => hd.2 rfl) (h.below hb) hz) (fun hz => if_neg hz) he
theorem tkLli (q : Nat) (fn1 fn2 : FuncId) (cap1 cap2 : Array Value) (s : K.RS) (g : K.RS → K.RS) (V : K.RS → World → Value → Prop) (hV : ∀ s, Stable (V s)) (w : World) (h : Rr w q s) (ht : TakesG (Dq w q) w fn2 cap2 g V) (he : ∀ args w, (callFunc fn2 args).run Tryz.prog w = .ok (.enter fn2 args) w) :
    Calls Tryz.prog 95 #[.agg #[.func (.func fn1) #[] cap1, .func (.func fn2) #[] cap2], .pointer (some ⟨q, 0, none⟩)] w (Took q (takeR g s) (V s) (.slice none 0 0) w) :=
  TakeLli q fn1 fn2 cap1 cap2 s (takeR g s) (V s) (hV s) w h (fun hz w1 hb => by unfold takeR; rw [if_pos hz]; exact ht q s w1 (Dq.agree hb) (fun hd => hd.2 rfl) (h.below hb) hz) (fun hz => if_neg hz) he
theorem tkW (q : Nat) (fn1 fn2 : FuncId) (cap1 cap2 : Array Value) (s : K.RS) (g : K.RS → K.RS) (V : K.RS → World → Value → Prop) (hV : ∀ s, Stable (V s)) (w : World) (h : Rr w q s) (ht : TakesG (Dq w q) w fn2 cap2 g V) (he : ∀ args w, (callFunc fn2 args).run Tryz.prog w = .ok (.enter fn2 args) w) :
    Calls Tryz.prog 90 #[.agg #[.func (.func fn1) #[] cap1, .func (.func fn2) #[] cap2], .pointer (some ⟨q, 0, none⟩)] w (Took q (takeR g s) (V s) (.int .u64 0) w) :=
  TakeW q fn1 fn2 cap1 cap2 s (takeR g s) (V s) (hV s) w h (fun hz w1 hb => by unfold takeR; rw [if_pos hz]; exact ht q s w1 (Dq.agree hb) (fun hd => hd.2 rfl) (h.below hb) hz) (fun hz => if_neg hz) he
theorem tkLw (q : Nat) (fn1 fn2 : FuncId) (cap1 cap2 : Array Value) (s : K.RS) (g : K.RS → K.RS) (V : K.RS → World → Value → Prop) (hV : ∀ s, Stable (V s)) (w : World) (h : Rr w q s) (ht : TakesG (Dq w q) w fn2 cap2 g V) (he : ∀ args w, (callFunc fn2 args).run Tryz.prog w = .ok (.enter fn2 args) w) :
    Calls Tryz.prog 96 #[.agg #[.func (.func fn1) #[] cap1, .func (.func fn2) #[] cap2], .pointer (some ⟨q, 0, none⟩)] w (Took q (takeR g s) (V s) (.slice none 0 0) w) :=
  TakeLw q fn1 fn2 cap1 cap2 s (takeR g s) (V s) (hV s) w h (fun hz w1 hb => by unfold takeR; rw [if_pos hz]; exact ht q s w1 (Dq.agree hb) (fun hd => hd.2 rfl) (h.below hb) hz) (fun hz => if_neg hz) he
theorem tkF (q : Nat) (fn1 fn2 : FuncId) (cap1 cap2 : Array Value) (s : K.RS) (g : K.RS → K.RS) (V : K.RS → World → Value → Prop) (hV : ∀ s, Stable (V s)) (w : World) (h : Rr w q s) (ht : TakesG (Dq w q) w fn2 cap2 g V) (he : ∀ args w, (callFunc fn2 args).run Tryz.prog w = .ok (.enter fn2 args) w) :
    Calls Tryz.prog 91 #[.agg #[.func (.func fn1) #[] cap1, .func (.func fn2) #[] cap2], .pointer (some ⟨q, 0, none⟩)] w (Took q (takeR g s) (V s) (.bool false) w) :=
  TakeF q fn1 fn2 cap1 cap2 s (takeR g s) (V s) (hV s) w h (fun hz w1 hb => by unfold takeR; rw [if_pos hz]; exact ht q s w1 (Dq.agree hb) (fun hd => hd.2 rfl) (h.below hb) hz) (fun hz => if_neg hz) he
theorem tkB (q : Nat) (fn1 fn2 : FuncId) (cap1 cap2 : Array Value) (s : K.RS) (g : K.RS → K.RS) (V : K.RS → World → Value → Prop) (hV : ∀ s, Stable (V s)) (w : World) (h : Rr w q s) (ht : TakesG (Dq w q) w fn2 cap2 g V) (he : ∀ args w, (callFunc fn2 args).run Tryz.prog w = .ok (.enter fn2 args) w) :
    Calls Tryz.prog 92 #[.agg #[.func (.func fn1) #[] cap1, .func (.func fn2) #[] cap2], .pointer (some ⟨q, 0, none⟩)] w (Took q (takeR g s) (V s) (.slice none 0 0) w) :=
  TakeB q fn1 fn2 cap1 cap2 s (takeR g s) (V s) (hV s) w h (fun hz w1 hb => by unfold takeR; rw [if_pos hz]; exact ht q s w1 (Dq.agree hb) (fun hd => hd.2 rfl) (h.below hb) hz) (fun hz => if_neg hz) he
/-- what a Take gave: by the state behind it -/
def okR {α : Type} (g : K.RS → K.RS) (s : K.RS) (x z : α) : α := if (takeR g s).fault = 0 then x else z
theorem okR_yes {α : Type} {g : K.RS → K.RS} {s : K.RS} (h : (takeR g s).fault = 0) (x z : α) : okR g s x z = x := if_pos h
theorem okR_no {α : Type} {g : K.RS → K.RS} {s : K.RS} (h : (takeR g s).fault ≠ 0) (x z : α) : okR g s x z = z := if_neg h
theorem take_num (q l m : Nat) (le mo : Int) (s : K.RS) (w : World) (h : Rr w q s) (hl : w.cell? ⟨l, 0, none⟩ = some (.int .i64 le)) (hm : w.cell? ⟨m, 0, none⟩ = some (.int .i64 mo)) (lq : q < l) (mq : q < m) (fn1 : FuncId) (cap1 : Array Value) :
    Calls Tryz.prog 57 #[.agg #[.func (.func fn1) #[] cap1, .func (.func 104) #[] #[.pointer (some ⟨l, 0, none⟩), .pointer (some ⟨m, 0, none⟩)]], .pointer (some ⟨q, 0, none⟩)] w fun en w' => en = .returned (.int .i64 (okR (numR le mo) s ((numV s : Nat) : Int) 0)) ∧ Rr w' q (takeR (numR le mo) s) ∧ Keep (fun k => k = q) w w' := by
  refine (tkI q fn1 _ cap1 _ s (numR le mo) _ (fun s _ _ v h _ => h) w h (takesNum (Dq w q) w l m le mo hl hm ⟨numForm_lt hl, by omega⟩ ⟨numForm_lt hm, by omega⟩) ent_takeNum).mono ?_
  rintro en w' ⟨v, rfl, hr, hk, h1, h2⟩
  by_cases hz : (takeR (numR le mo) s).fault = 0
  · rw [okR_yes hz, h1 hz]; exact ⟨rfl, hr, hk⟩
  · rw [okR_no hz, h2 hz]; exact ⟨rfl, hr, hk⟩
theorem take_word (q : Nat) (s : K.RS) (w : World) (h : Rr w q s) (fn1 : FuncId) (cap1 : Array Value) :
    Calls Tryz.prog 90 #[.agg #[.func (.func fn1) #[] cap1, .func (.func 129) #[] #[]], .pointer (some ⟨q, 0, none⟩)] w fun en w' => en = .returned (.int .u64 ((okR wordR s (wordV s) 0 : Nat) : Int)) ∧ Rr w' q (takeR wordR s) ∧ Keep (fun k => k = q) w w' := by
  refine (tkW q fn1 _ cap1 _ s wordR _ (fun s _ _ v h _ => h) w h (takesWord (Dq w q) w) ent_takeWord).mono ?_
  rintro en w' ⟨v, rfl, hr, hk, h1, h2⟩
  by_cases hz : (takeR wordR s).fault = 0
  · rw [okR_yes hz, h1 hz]; exact ⟨rfl, hr, hk⟩
  · rw [okR_no hz, h2 hz]; exact ⟨rfl, hr, hk⟩
theorem take_flag (q : Nat) (s : K.RS) (w : World) (h : Rr w q s) (fn1 : FuncId) (cap1 : Array Value) :
    Calls Tryz.prog 91 #[.agg #[.func (.func fn1) #[] cap1, .func (.func 134) #[] #[]], .pointer (some ⟨q, 0, none⟩)] w fun en w' => en = .returned (.bool (okR flagR s (flagV s) false)) ∧ Rr w' q (takeR flagR s) ∧ Keep (fun k => k = q) w w' := by
  refine (tkF q fn1 _ cap1 _ s flagR _ (fun s _ _ v h _ => h) w h (takesFlag (Dq w q) w) ent_takeFlag).mono ?_
  rintro en w' ⟨v, rfl, hr, hk, h1, h2⟩
  by_cases hz : (takeR flagR s).fault = 0
  · rw [okR_yes hz, h1 hz]; exact ⟨rfl, hr, hk⟩
  · rw [okR_no hz, h2 hz]; exact ⟨rfl, hr, hk⟩
theorem take_text (q m : Nat) (mo : Int) (s : K.RS) (w : World) (h : Rr w q s) (hm : w.cell? ⟨m, 0, none⟩ = some (.int .i64 mo)) (mq : q < m) (fn1 : FuncId) (cap1 : Array Value) :
    Calls Tryz.prog 58 #[.agg #[.func (.func fn1) #[] cap1, .func (.func 115) #[] #[.pointer (some ⟨m, 0, none⟩)]], .pointer (some ⟨q, 0, none⟩)] w fun en w' => en = .returned (.string (okR (rowR mo) s (str (rowV mo s)) ⟨#[]⟩)) ∧ Rr w' q (takeR (rowR mo) s) ∧ Keep (fun k => k = q) w w' := by
  refine (tkS q fn1 _ cap1 _ s (rowR mo) _ (fun s _ _ v h _ => h) w h (takesText (Dq w q) w m mo hm ⟨numForm_lt hm, by omega⟩) ent_takeText).mono ?_
  rintro en w' ⟨v, rfl, hr, hk, h1, h2⟩
  by_cases hz : (takeR (rowR mo) s).fault = 0
  · rw [okR_yes hz, h1 hz]; exact ⟨rfl, hr, hk⟩
  · rw [okR_no hz, h2 hz]; exact ⟨rfl, hr, hk⟩
theorem ownsRow_keepB {w w' : World} {b : Nat} {e : TypeId} {size : Nat} {v : Value} {n : Nat} {xs : List Value} (h : w.ownsRow b e size v n xs) (hb : Below w.heap.size w w') : w'.ownsRow b e size v n xs := by
  refine ⟨h.1, ?_⟩
  rcases h.2 with h' | ⟨g, cap, cur, h1, h2, h3, h4⟩
  · exact .inl h'
  · exact .inr ⟨g, cap, cur, h1, h2, by rw [hb.block g (Array.getElem?_eq_some_iff.1 h3).1]; exact h3, h4⟩
theorem rd_nil (w : World) : Rd w none 0 [] := ⟨rfl, by decide, by simp, .inl rfl⟩
theorem take_blob (q m : Nat) (mo : Int) (s : K.RS) (w : World) (h : Rr w q s) (hm : w.cell? ⟨m, 0, none⟩ = some (.int .i64 mo)) (mq : q < m) (fn1 : FuncId) (cap1 : Array Value) :
    Calls Tryz.prog 92 #[.agg #[.func (.func fn1) #[] cap1, .func (.func 139) #[] #[.pointer (some ⟨m, 0, none⟩)]], .pointer (some ⟨q, 0, none⟩)] w fun en w' => ∃ a n c, en = .returned (.slice a n c) ∧ Rd w' a n (okR (rowR mo) s (rowV mo s) []) ∧ Rr w' q (takeR (rowR mo) s) ∧ Keep (fun k => k = q) w w' := by
  have hby := rowV_lt h mo
  have hle : (rowV mo s).length ≤ 16777216 := Nat.le_trans (rowV_len mo s) h.top
  refine (tkB q fn1 _ cap1 _ s (rowR mo) (fun s w v => w.ownsRow 0 5 1 v (rowV mo s).length (B8 (rowV mo s))) (fun s w1 w2 v h hb => ownsRow_keepB h hb) w h (takesBlob (Dq w q) w m mo hm ⟨numForm_lt hm, by omega⟩) ent_takeBlob).mono ?_
  rintro en w' ⟨v, rfl, hr, hk, h1, h2⟩
  by_cases hz : (takeR (rowR mo) s).fault = 0
  · rw [okR_yes hz]
    obtain ⟨a, c, e, hrd, _⟩ := ownsRow_rd (h1 hz) hby (by omega)
    exact ⟨a, _, c, by rw [e], hrd, hr, hk⟩
  · rw [okR_no hz, h2 hz]; exact ⟨none, 0, 0, rfl, rd_nil _, hr, hk⟩
end Wm
end Go.Proofs.YtoelgcagahmndaaGreat

/- The law's took: lists, by value. -/
namespace Go.Proofs.YtoelgcagahmndaaGreat
namespace Wm
open Go.RowKit Go.Deep

/-- values of a list that was taken -/
def lvI (mo le hi : Int) (s : K.RS) : List Int := okR (listR mo (numR le hi)) s (listVal mo (numR le hi) (fun s => ((numV s : Nat) : Int)) s) []
def lvS (mo t : Int) (s : K.RS) : List ByteArray := okR (listR mo (rowR t)) s (listVal mo (rowR t) (fun s => str (rowV t s)) s) []
def lvD (mo m0 hi : Int) (s : K.RS) : List (List Int) := okR (listR mo (listR m0 (numR 0 hi))) s (listVal mo (listR m0 (numR 0 hi)) (listVal m0 (numR 0 hi) (fun s => ((numV s : Nat) : Int))) s) []
def lvW (mo : Int) (s : K.RS) : List Nat := okR (listR mo wordR) s (listVal mo wordR wordV s) []
def uw (l : List Nat) : List Value := l.map fun x : Nat => .int .u64 (x : Int)
theorem take_ints (q l m m2 o2 : Nat) (le hi mo : Int) (hmo : mo ≤ 16777216) (s : K.RS) (w : World) (h : Rr w q s) (fn1 fn0 : FuncId) (cap1 cap0 : Array Value) (hl : w.cell? ⟨l, 0, none⟩ = some (.int .i64 le)) (hm : w.cell? ⟨m, 0, none⟩ = some (.int .i64 hi)) (hm2 : w.cell? ⟨m2, 0, none⟩ = some (.int .i64 mo))
    (ho2 : w.heap[o2]? = some (.cells #[.func (.func fn0) #[] cap0, .func (.func 104) #[] #[.pointer (some ⟨l, 0, none⟩), .pointer (some ⟨m, 0, none⟩)]] 85 (0, 0))) (lq : q < l) (mq : q < m) (m2q : q < m2) (o2q : q < o2) :
    Calls Tryz.prog 93 #[.agg #[.func (.func fn1) #[] cap1, .func (.func 144) #[] #[.pointer (some ⟨m2, 0, none⟩), .pointer (some ⟨o2, 0, none⟩)]], .pointer (some ⟨q, 0, none⟩)] w fun en w' => ∃ a n c, en = .returned (.slice a n c) ∧ Els (NR w') w' a n (iv (lvI mo le hi s)) ∧ Rr w' q (takeR (listR mo (numR le hi)) s) ∧ Keep (fun k => k = q) w w' := by
  have hT := takesListI (Dq w q) w m2 o2 mo hmo fn0 _ cap0 _ (numR le hi) (fun s _ v => v = .int .i64 (numV s : Nat)) (fun _ => stableT_plain) (fun s w v h => ⟨_, h⟩) (takesNum (Dq w q) w l m le hi hl hm ⟨numForm_lt hl, by omega⟩ ⟨numForm_lt hm, by omega⟩) ent_takeNum ⟨numForm_lt hm2, by omega⟩ ⟨blk_lt ho2, by omega⟩ hm2 ho2
  refine (tkLi q fn1 _ cap1 _ s _ _ (fun s => (listV_stable (T' := 70) (by decide) (by decide) (fun _ => stableT_plain) s).stable) w h hT ent_takeListI).mono ?_
  rintro en w' ⟨v, rfl, hr, hk, h1, h2⟩
  unfold lvI
  by_cases hz : (takeR (listR mo (numR le hi)) s).fault = 0
  · rw [okR_yes hz]
    obtain ⟨a, n, c, e, he, _⟩ := listV_nr (enc := Value.int .i64) (val := fun s => ((numV s : Nat) : Int)) (h1 hz) (Nat.le_trans (rest_le s) h.top) (by decide)
    exact ⟨a, n, c, by rw [e], he, hr, hk⟩
  · rw [okR_no hz, h2 hz]; exact ⟨none, 0, 0, rfl, els0 _, hr, hk⟩
theorem take_texts (q m m2 o2 : Nat) (t mo : Int) (hmo : mo ≤ 16777216) (s : K.RS) (w : World) (h : Rr w q s) (fn1 fn0 : FuncId) (cap1 cap0 : Array Value) (hm : w.cell? ⟨m, 0, none⟩ = some (.int .i64 t)) (hm2 : w.cell? ⟨m2, 0, none⟩ = some (.int .i64 mo))
    (ho2 : w.heap[o2]? = some (.cells #[.func (.func fn0) #[] cap0, .func (.func 115) #[] #[.pointer (some ⟨m, 0, none⟩)]] 98 (0, 0))) (mq : q < m) (m2q : q < m2) (o2q : q < o2) :
    Calls Tryz.prog 94 #[.agg #[.func (.func fn1) #[] cap1, .func (.func 110) #[] #[.pointer (some ⟨m2, 0, none⟩), .pointer (some ⟨o2, 0, none⟩)]], .pointer (some ⟨q, 0, none⟩)] w fun en w' => ∃ a n c, en = .returned (.slice a n c) ∧ Els (NR w') w' a n (sv (lvS mo t s)) ∧ Rr w' q (takeR (listR mo (rowR t)) s) ∧ Keep (fun k => k = q) w w' := by
  have hT := takesListS (Dq w q) w m2 o2 mo hmo fn0 _ cap0 _ (rowR t) (fun s _ v => v = .string (str (rowV t s))) (fun _ => stableT_plain) (fun s w v h => ⟨_, h⟩) (takesText (Dq w q) w m t hm ⟨numForm_lt hm, by omega⟩) ent_takeText ⟨numForm_lt hm2, by omega⟩ ⟨blk_lt ho2, by omega⟩ hm2 ho2
  refine (tkLs q fn1 _ cap1 _ s _ _ (fun s => (listV_stable (T' := 70) (by decide) (by decide) (fun _ => stableT_plain) s).stable) w h hT ent_takeListS).mono ?_
  rintro en w' ⟨v, rfl, hr, hk, h1, h2⟩
  unfold lvS
  by_cases hz : (takeR (listR mo (rowR t)) s).fault = 0
  · rw [okR_yes hz]
    obtain ⟨a, n, c, e, he, _⟩ := listV_nr (enc := Value.string) (val := fun s => str (rowV t s)) (h1 hz) (Nat.le_trans (rest_le s) h.top) (by decide)
    exact ⟨a, n, c, by rw [e], he, hr, hk⟩
  · rw [okR_no hz, h2 hz]; exact ⟨none, 0, 0, rfl, els0 _, hr, hk⟩
theorem take_words (q m2 o2 : Nat) (mo : Int) (hmo : mo ≤ 16777216) (s : K.RS) (w : World) (h : Rr w q s) (fn1 fn0 : FuncId) (cap1 cap0 : Array Value) (hm2 : w.cell? ⟨m2, 0, none⟩ = some (.int .i64 mo))
    (ho2 : w.heap[o2]? = some (.cells #[.func (.func fn0) #[] cap0, .func (.func 129) #[] #[]] 124 (0, 0))) (m2q : q < m2) (o2q : q < o2) :
    Calls Tryz.prog 96 #[.agg #[.func (.func fn1) #[] cap1, .func (.func 157) #[] #[.pointer (some ⟨m2, 0, none⟩), .pointer (some ⟨o2, 0, none⟩)]], .pointer (some ⟨q, 0, none⟩)] w fun en w' => ∃ a n c, en = .returned (.slice a n c) ∧ Els (NR w') w' a n (uw (lvW mo s)) ∧ Rr w' q (takeR (listR mo wordR) s) ∧ Keep (fun k => k = q) w w' := by
  have hT := takesListW (Dq w q) w m2 o2 mo hmo fn0 _ cap0 _ wordR (fun s _ v => v = .int .u64 ((wordV s : Nat) : Int)) (fun _ => stableT_plain) (fun s w v h => ⟨_, h⟩) (takesWord (Dq w q) w) ent_takeWord ⟨numForm_lt hm2, by omega⟩ ⟨blk_lt ho2, by omega⟩ hm2 ho2
  refine (tkLw q fn1 _ cap1 _ s _ _ (fun s => (listV_stable (T' := 70) (by decide) (by decide) (fun _ => stableT_plain) s).stable) w h hT ent_takeListW).mono ?_
  rintro en w' ⟨v, rfl, hr, hk, h1, h2⟩
  unfold lvW
  by_cases hz : (takeR (listR mo wordR) s).fault = 0
  · rw [okR_yes hz]
    obtain ⟨a, n, c, e, he, _⟩ := listV_nr (enc := fun x : Nat => Value.int .u64 (x : Int)) (val := wordV) (h1 hz) (Nat.le_trans (rest_le s) h.top) (by decide)
    exact ⟨a, n, c, by rw [e], he, hr, hk⟩
  · rw [okR_no hz, h2 hz]; exact ⟨none, 0, 0, rfl, els0 _, hr, hk⟩
theorem take_rows (q l m m2 o2 m3 o3 : Nat) (hi m0 mo : Int) (hm0 : m0 ≤ 16777216) (hmo : mo ≤ 16777216) (s : K.RS) (w : World) (h : Rr w q s) (fn1 fn0 fn9 : FuncId) (cap1 cap0 cap9 : Array Value) (hl : w.cell? ⟨l, 0, none⟩ = some (.int .i64 0)) (hm : w.cell? ⟨m, 0, none⟩ = some (.int .i64 hi)) (hm2 : w.cell? ⟨m2, 0, none⟩ = some (.int .i64 m0)) (hm3 : w.cell? ⟨m3, 0, none⟩ = some (.int .i64 mo))
    (ho2 : w.heap[o2]? = some (.cells #[.func (.func fn0) #[] cap0, .func (.func 104) #[] #[.pointer (some ⟨l, 0, none⟩), .pointer (some ⟨m, 0, none⟩)]] 85 (0, 0)))
    (ho3 : w.heap[o3]? = some (.cells #[.func (.func fn9) #[] cap9, .func (.func 144) #[] #[.pointer (some ⟨m2, 0, none⟩), .pointer (some ⟨o2, 0, none⟩)]] 139 (0, 0))) (lq : q < l) (mq : q < m) (m2q : q < m2) (o2q : q < o2) (m3q : q < m3) (o3q : q < o3) :
    Calls Tryz.prog 95 #[.agg #[.func (.func fn1) #[] cap1, .func (.func 151) #[] #[.pointer (some ⟨m3, 0, none⟩), .pointer (some ⟨o3, 0, none⟩)]], .pointer (some ⟨q, 0, none⟩)] w fun en w' => ∃ a n c, en = .returned (.slice a n c) ∧ RowsAt (NR w') w' a n (lvD mo m0 hi s) ∧ Rr w' q (takeR (listR mo (listR m0 (numR 0 hi))) s) ∧ Keep (fun k => k = q) w w' := by
  have hT0 := takesListI (Dq w q) w m2 o2 m0 hm0 fn0 _ cap0 _ (numR 0 hi) (fun s _ v => v = .int .i64 (numV s : Nat)) (fun _ => stableT_plain) (fun s w v h => ⟨_, h⟩) (takesNum (Dq w q) w l m 0 hi hl hm ⟨numForm_lt hl, by omega⟩ ⟨numForm_lt hm, by omega⟩) ent_takeNum ⟨numForm_lt hm2, by omega⟩ ⟨blk_lt ho2, by omega⟩ hm2 ho2
  have hT := takesListLi (Dq w q) w m3 o3 mo hmo fn9 _ cap9 _ (listR m0 (numR 0 hi)) (listV 3 m0 (numR 0 hi) (fun s _ v => v = .int .i64 (numV s : Nat))) (fun s => listV_stable (by decide) (by decide) (fun _ => stableT_plain) s) (fun s w v h => listV_shape h) hT0 ent_takeListI ⟨numForm_lt hm3, by omega⟩ ⟨blk_lt ho3, by omega⟩ hm3 ho3
  refine (tkLli q fn1 _ cap1 _ s _ _ (fun s => (listV_stable (T' := 9) (by decide) (by decide) (fun s => listV_stable (by decide) (by decide) (fun _ => stableT_plain) s) s).stable) w h hT ent_takeListLi).mono ?_
  rintro en w' ⟨v, rfl, hr, hk, h1, h2⟩
  unfold lvD
  by_cases hz : (takeR (listR mo (listR m0 (numR 0 hi))) s).fault = 0
  · rw [okR_yes hz]
    obtain ⟨a, n, c, e, he⟩ := listV_rowsN (val := fun s => ((numV s : Nat) : Int)) (h1 hz) h.top (kp_list (kp_num 0 hi) m0) (by decide) (by decide)
    exact ⟨a, n, c, by rw [e], he, hr, hk⟩
  · rw [okR_no hz, h2 hz]; exact ⟨none, 0, 0, rfl, rows0 _, hr, hk⟩
end Wm
end Go.Proofs.YtoelgcagahmndaaGreat
