/- PackBack: what is written and what is read, part by part. -/
import Derived.Test.YtagdlblegnfemabGreatPBackV
import Derived.Test.YtagdlblegnfemabGreatPOpen
namespace Go.Proofs.YtagdlblegnfemabGreat
open Go.RowKit

theorem minfar : (min 9223372036854775807 16777216 : Int) = 16777216 := by decide
theorem belowDrewN {B : Nat} {a w : World} (h : Below B a w) (n : Nat) : Below B a (w.drewN n) := ⟨h.os, h.tape, h.output, h.size, h.block⟩
theorem Els.keepB {w w' : World} {a : Option Addr} {n : Nat} {vs : List Value} (h : Els (fun k => k < w.heap.size) w a n vs) (hb : Below w.heap.size w w') : Els (fun k => k < w'.heap.size) w' a n vs := by
  refine ⟨h.1, h.2.1, ?_⟩
  rcases h.2.2 with h0 | ⟨b, off, rfl, hlt, hr⟩
  · exact .inl h0
  · exact .inr ⟨b, off, rfl, Nat.lt_of_lt_of_le hlt hb.size, fun i v hv => keepCell (hr i v hv) hb⟩
theorem RowsAt.keepB {w w' : World} {a : Option Addr} {n : Nat} {zs : List (List Int)} (h : RowsAt (fun k => k < w.heap.size) w a n zs) (hb : Below w.heap.size w w') : RowsAt (fun k => k < w'.heap.size) w' a n zs := by
  obtain ⟨vs, h1, h2, h3⟩ := h
  refine ⟨vs, h1.keepB hb, h2, fun i v z hv hz => ?_⟩
  obtain ⟨a', c', e, he⟩ := h3 i v z hv hz
  exact ⟨a', c', e, he.keepB hb⟩
theorem room_le (r : Int) : room r ≤ 16777216 := by unfold room; omega
theorem rest_new (l : List Nat) : (rest (newR l)).length ≤ 16777216 := by
  rw [rest_len]; unfold newR; split <;> simp; omega

/-- a list of things of one cell each, put -/
theorem puts_all {α : Type} (enc : α → Value) (fw : α → K.WS → K.WS) (xs : List α) {vs : List Value} {fs : List (K.WS → K.WS)} (hv : vs = xs.map enc) (hf : fs = xs.map fw) {D : Nat → Prop} {w : World} {fn : FuncId} {cap : Array Value} (h : ∀ x ∈ xs, PutsG D w fn cap (enc x) (fw x)) :
    ∀ (i : Nat) v f, vs[i]? = some v → fs[i]? = some f → PutsG D w fn cap v f := by
  subst hv; subst hf
  intro i v f hv hf
  rw [List.getElem?_map] at hv hf
  cases hs : xs[i]? with
  | none => rw [hs] at hv; cases hv
  | some x =>
    rw [hs] at hv hf
    simp only [Option.map_some, Option.some.injEq] at hv hf
    subst hv; subst hf
    exact h x (List.mem_of_getElem? hs)

def intsW (q : Int) (zs : List Int) : K.WS → K.WS := listW q (zs.map fun x => numW 0 9223372036854775807 x)
def strsW (t q : Int) (ss : List (List Nat)) : K.WS → K.WS := listW q (ss.map fun bs => textW t bs)
def rowsWq (q : Int) (zs : List (List Int)) : K.WS → K.WS := listW q (zs.map (intsW 16777216))
def wordsW (q : Int) (ws : List W64) : K.WS → K.WS := listW q (ws.map fun x => wordW x.val)
def flagsW (q : Int) (bs : List Bool) : K.WS → K.WS := listW q (bs.map fun b => flagW b)
def encW (x : W64) : Value := .int .u64 ((x.val : Nat) : Int)
def valW (s : K.RS) : W64 := Fin.ofNat 18446744073709551616 (wordV s)

theorem putsIs (w : World) (l m m2 o2 : Nat) (q : Int) (a : Option Addr) (n c : Nat) (zs : List Int) (he : Els (fun k => k < w.heap.size) w a n (zs.map (Value.int .i64))) (hz : ∀ x ∈ zs, x ≤ 9223372036854775807) (hl : w.cell? ⟨l, 0, none⟩ = some (.int .i64 0)) (hm : w.cell? ⟨m, 0, none⟩ = some (.int .i64 9223372036854775807)) (hm2 : w.cell? ⟨m2, 0, none⟩ = some (.int .i64 q))
    (ho : w.heap[o2]? = some (.cells #[.func (.func 49) #[] #[.pointer (some ⟨l, 0, none⟩), .pointer (some ⟨m, 0, none⟩)], .func (.func 51) #[] #[.pointer (some ⟨l, 0, none⟩), .pointer (some ⟨m, 0, none⟩)]] 43 (0, 0))) :
    PutsG (fun k => k < w.heap.size) w 40 #[.pointer (some ⟨m2, 0, none⟩), .pointer (some ⟨o2, 0, none⟩)] (.slice a n c) (intsW q zs) :=
  putsListI _ w m2 o2 q _ _ _ _ a n c _ _ he (by rw [List.length_map, he.1, List.length_map]) (puts_all _ _ zs rfl rfl fun x hx => putsNum _ w l m _ _ x (hz x hx) hl hm (numForm_lt hl) (numForm_lt hm)) ent_putNum (numForm_lt hm2) (blk_lt ho) hm2 ho

theorem putsSs (w : World) (m m2 o2 : Nat) (t q : Int) (a : Option Addr) (n c : Nat) (ss : List ByteArray) (he : Els (fun k => k < w.heap.size) w a n (ss.map Value.string)) (hz : ∀ s ∈ ss, s.size ≤ 140737488351232) (hm : w.cell? ⟨m, 0, none⟩ = some (.int .i64 t)) (hm2 : w.cell? ⟨m2, 0, none⟩ = some (.int .i64 q))
    (ho : w.heap[o2]? = some (.cells #[.func (.func 61) #[] #[.pointer (some ⟨m, 0, none⟩)], .func (.func 63) #[] #[.pointer (some ⟨m, 0, none⟩)]] 57 (0, 0))) :
    PutsG (fun k => k < w.heap.size) w 56 #[.pointer (some ⟨m2, 0, none⟩), .pointer (some ⟨o2, 0, none⟩)] (.slice a n c) (strsW t q (ss.map sb)) :=
  putsListS _ w m2 o2 q _ _ _ _ a n c _ _ he (by rw [List.length_map, List.length_map, he.1, List.length_map]) (puts_all Value.string (fun s => textW t (sb s)) ss rfl (by rw [List.map_map]; rfl) fun s hs => putsText _ w m _ s (hz s hs) hm (numForm_lt hm)) ent_putText (numForm_lt hm2) (blk_lt ho) hm2 ho

theorem putsWs (w : World) (m2 o2 : Nat) (q : Int) (a : Option Addr) (n c : Nat) (ws : List W64) (he : Els (fun k => k < w.heap.size) w a n (ws.map encW)) (hm2 : w.cell? ⟨m2, 0, none⟩ = some (.int .i64 q))
    (ho : w.heap[o2]? = some (.cells #[.func (.func 80) #[] #[], .func (.func 81) #[] #[]] 81 (0, 0))) :
    PutsG (fun k => k < w.heap.size) w 75 #[.pointer (some ⟨m2, 0, none⟩), .pointer (some ⟨o2, 0, none⟩)] (.slice a n c) (wordsW q ws) :=
  putsListW _ w m2 o2 q _ _ _ _ a n c _ _ he (by rw [List.length_map, he.1, List.length_map]) (puts_all _ _ ws rfl rfl fun x _ => putsWord _ w x.val x.isLt) ent_putWord (numForm_lt hm2) (blk_lt ho) hm2 ho

theorem putsFs (w : World) (m2 o2 : Nat) (q : Int) (a : Option Addr) (n c : Nat) (bs : List Bool) (he : Els (fun k => k < w.heap.size) w a n (bs.map Value.bool)) (hm2 : w.cell? ⟨m2, 0, none⟩ = some (.int .i64 q))
    (ho : w.heap[o2]? = some (.cells #[.func (.func 91) #[] #[], .func (.func 92) #[] #[]] 94 (0, 0))) :
    PutsG (fun k => k < w.heap.size) w 86 #[.pointer (some ⟨m2, 0, none⟩), .pointer (some ⟨o2, 0, none⟩)] (.slice a n c) (flagsW q bs) :=
  putsListF _ w m2 o2 q _ _ _ _ a n c _ _ he (by rw [List.length_map, he.1, List.length_map]) (puts_all _ _ bs rfl rfl fun x _ => putsFlag _ w x) ent_putFlag (numForm_lt hm2) (blk_lt ho) hm2 ho

theorem putsDs (w : World) (l m m2 o2 m3 o3 : Nat) (q : Int) (a : Option Addr) (n c : Nat) (zs : List (List Int)) (he : RowsAt (fun k => k < w.heap.size) w a n zs) (hz : ∀ z ∈ zs, ∀ x ∈ z, x ≤ 9223372036854775807) (hl : w.cell? ⟨l, 0, none⟩ = some (.int .i64 0)) (hm : w.cell? ⟨m, 0, none⟩ = some (.int .i64 9223372036854775807)) (hm2 : w.cell? ⟨m2, 0, none⟩ = some (.int .i64 16777216))
    (ho : w.heap[o2]? = some (.cells #[.func (.func 49) #[] #[.pointer (some ⟨l, 0, none⟩), .pointer (some ⟨m, 0, none⟩)], .func (.func 51) #[] #[.pointer (some ⟨l, 0, none⟩), .pointer (some ⟨m, 0, none⟩)]] 43 (0, 0)))
    (hm3 : w.cell? ⟨m3, 0, none⟩ = some (.int .i64 q))
    (ho3 : w.heap[o3]? = some (.cells #[.func (.func 40) #[] #[.pointer (some ⟨m2, 0, none⟩), .pointer (some ⟨o2, 0, none⟩)], .func (.func 45) #[] #[.pointer (some ⟨m2, 0, none⟩), .pointer (some ⟨o2, 0, none⟩)]] 38 (0, 0))) :
    PutsG (fun k => k < w.heap.size) w 68 #[.pointer (some ⟨m3, 0, none⟩), .pointer (some ⟨o3, 0, none⟩)] (.slice a n c) (rowsWq q zs) := by
  obtain ⟨vs, h1, h2, h3⟩ := he
  unfold rowsWq
  refine putsListLi _ w m3 o3 q _ _ _ _ a n c vs _ h1 (by rw [List.length_map, h2]) (fun i v f hv hf => ?_) ent_putListI (numForm_lt hm3) (blk_lt ho3) hm3 ho3
  rw [List.getElem?_map] at hf
  cases hs : zs[i]? with
  | none => rw [hs] at hf; cases hf
  | some z =>
    rw [hs] at hf
    simp only [Option.map_some, Option.some.injEq] at hf
    subst hf
    obtain ⟨a', c', rfl, he⟩ := h3 i v z hv hs
    exact putsIs w l m m2 o2 16777216 a' z.length c' z he (hz z (List.mem_of_getElem? hs)) hl hm hm2 ho

theorem takesWord' (D : Nat → Prop) (w : World) : TakesG D w 81 #[] wordR (fun s _ v => v = encW (valW s)) := by
  intro q s w1 _ _ h hz
  have hb : ∀ i, ((rest s).take 8).getD i 0 < 256 := by
    intro i
    obtain ⟨a, c, _, hr, _⟩ := h.ex
    have hd := hr.2.2.1
    rw [List.getD_eq_getElem?_getD]
    cases hx : ((rest s).take 8)[i]? with
    | none => simp
    | some x =>
      have hm : x ∈ s.data := List.mem_of_mem_drop (List.mem_of_mem_take (List.mem_of_getElem? hx))
      exact hd x hm
  have hv : wordV s < 18446744073709551616 := by
    have := wval_lt hb 8
    exact Nat.lt_of_lt_of_eq this (by decide)
  have e : (fun (_ : World) (v : Value) => v = .int .u64 ((wordV s : Nat) : Int)) = (fun (_ : World) (v : Value) => v = encW (valW s)) := by
    funext _ v
    have : (valW s).val = wordV s := Nat.mod_eq_of_lt hv
    unfold encW
    rw [this]
  have := takeWord q s w1 h hz
  rw [e] at this
  exact this

/-- what was written is read as it was: a list of things of one cell each -/
theorem back_list {α : Type} {g : K.RS → K.RS} {val : K.RS → α} {f : α → K.WS → K.WS} (h : WR g val f) (en : α → Value) (q R : Int) (xs : List α) {s2 : K.WS} (h2 : listW q (xs.map f) ⟨[], room R, 0⟩ = s2) (hz : s2.fault = 0) {T : TypeId} {r : Nat} (hr : endR (takeR (listR q g) (newR (told s2))) = r) {w : World} {v : Value}
    (hv : r = 0 → listV T q g (fun s _ v => v = en (val s)) (newR (told s2)) w v) : r = 0 ∧ ∃ a n c, v = .slice a n c ∧ Els (fun k => k < w.heap.size) w a n (xs.map en) ∧ n = xs.length := by
  obtain ⟨e1, e2⟩ := wr_back (wr_list h q) xs (room R) (room_le R) s2 h2 hz
  have hr0 : r = 0 := hr.symm.trans e1
  obtain ⟨a, n, c, rfl, he, hn⟩ := listV_vals (val := val) (hv hr0) (rest_new _)
  rw [e2] at he hn
  exact ⟨hr0, a, n, c, rfl, he, hn⟩

theorem back_rows (q R : Int) (zs : List (List Int)) {s2 : K.WS} (h2 : rowsWq q zs ⟨[], room R, 0⟩ = s2) (hz : s2.fault = 0) (hby : ∀ d ∈ told s2, d < 256) {Ti To : TypeId} {r : Nat} (hr : endR (takeR (listR q (listR 16777216 (numR 0 9223372036854775807))) (newR (told s2))) = r) {w : World} {v : Value}
    (hv : r = 0 → listV To q (listR 16777216 (numR 0 9223372036854775807)) (listV Ti 16777216 (numR 0 9223372036854775807) (fun s _ v => v = Value.int .i64 ((numV s : Nat) : Int))) (newR (told s2)) w v) :
    r = 0 ∧ ∃ a n c, v = .slice a n c ∧ RowsAt (fun k => k < w.heap.size) w a n zs := by
  obtain ⟨e1, e2⟩ := wr_back (wr_list (wr_list (wr_num 0 9223372036854775807 (by decide)) 16777216) q) zs (room R) (room_le R) s2 h2 hz
  have hr0 : r = 0 := hr.symm.trans e1
  obtain ⟨hg, hgz⟩ := good_new hby e1
  obtain ⟨a, n, c, rfl, he⟩ := listV_rows (val := fun s => ((numV s : Nat) : Int)) (hv hr0) (rest_new _) (fun i n z hp hi => by
    unfold listR at hgz
    rw [hp] at hgz
    obtain ⟨_, _, hzn⟩ := cnt_ok hp
    have hlen := rest_len (newR (told s2))
    have hgo : Good ((newR (told s2)).go z) := ⟨hg.1, hg.2.1, by show (newR (told s2)).taken + z ≤ (newR (told s2)).data.length; have := hg.2.2.1; omega, hg.2.2.2⟩
    have hgi := good_all (rw_list (rw_num 0 9223372036854775807) 16777216) hgo hgz i (by omega)
    rw [rest_len]
    have := hgi.2.1
    omega)
  rw [e2] at he
  exact ⟨hr0, a, n, c, rfl, he⟩

end Go.Proofs.YtagdlblegnfemabGreat
