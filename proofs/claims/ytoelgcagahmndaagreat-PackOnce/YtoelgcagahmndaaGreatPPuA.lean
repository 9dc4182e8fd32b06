/- The law's put and laid of a step, whatever its kind: one effect. -/
import Derived.Test.YtoelgcagahmndaaGreatPPu6
import Derived.Test.YtoelgcagahmndaaGreatPLa3
namespace Go.Proofs.YtoelgcagahmndaaGreat
namespace Wm
open Go.RowKit Go.Deep

/-- a step, by value -/
structure Sp where
  wh : Int
  le : Int
  mo : Int
  nn : Int
  X : Nat
  F : Bool
  st : ByteArray
  aB : Option Addr
  nB : Nat
  cB : Nat
  lB : List Nat
  aL : Option Addr
  nL : Nat
  cL : Nat
  L : List Int
  aT : Option Addr
  nT : Nat
  cT : Nat
  T : List ByteArray
  aD : Option Addr
  nD : Nat
  cD : Nat
  vs : List Value
  ls : List (List Int)
def Sp.val (q : Sp) : Value := .agg #[.int .i64 q.wh, .int .i64 q.le, .int .i64 q.mo, .int .i64 q.nn, .int .u64 (q.X : Nat), .bool q.F, .string q.st, .slice q.aB q.nB q.cB, .slice q.aL q.nL q.cL, .slice q.aT q.nT q.cT, .slice q.aD q.nD q.cD]
/-- its lists lie in blocks of D -/
structure Sp.Ok (q : Sp) (D : Nat → Prop) (w : World) : Prop where
  w1 : -9223372036854775808 ≤ q.wh
  w2 : q.wh ≤ 9223372036854775807
  n2 : q.nn ≤ 9223372036854775807
  x : q.X < 18446744073709551616
  s : q.st.size ≤ 140737488351232
  b : Rd w q.aB q.nB q.lB
  b0 : q.aB = none → q.cB = 0
  bn : q.nB ≤ 140737488351232
  bd : q.nB ≠ 0 → ∀ b off, q.aB = some ⟨b, off, none⟩ → D b
  l : Els D w q.aL q.nL (iv q.L)
  ly : ∀ y ∈ q.L, y ≤ 9223372036854775807
  ln : q.nL ≤ 17592186043904
  t : Els D w q.aT q.nT (sv q.T)
  ty : ∀ y ∈ q.T, y.size ≤ 140737488351232
  d : Els D w q.aD q.nD q.vs
  dl : Lsts D w q.vs q.ls
def Sp.effK (q : Sp) (s : K.WS) : Nat → K.WS
  | 0 => putW (numW q.le q.mo q.nn) s
  | 1 => putW (wordW q.X) s
  | 2 => putW (flagW q.F) s
  | 3 => putW (textW q.mo (sb q.st)) s
  | 4 => putW (textW q.mo q.lB) s
  | 5 => putW (listW (min q.mo 16777216) (q.L.map (numW q.le 9223372036854775807))) s
  | 6 => putW (listW (min q.mo 16777216) (q.T.map fun t => textW q.nn (sb t))) s
  | 7 => putW (listW (min q.mo 16777216) (q.ls.map fun d => listW (min q.le 16777216) (d.map (numW 0 q.nn)))) s
  | 8 => putW (listW (min q.mo 16777216) (q.L.map fun y => wordW (wd y))) s
  | 9 => s.fail 22
  | _ => s
def Sp.eff (q : Sp) (s : K.WS) : K.WS := q.effK s (pk q.wh)
theorem pk_lt (c : Int) : pk c < 11 := by unfold pk; omega
theorem put_any (S : Nat → Prop) (w0 : World) (p : Nat) (s : K.WS) (q : Sp) (w : World) (h : WAt S w0 p s w) (ok : q.Ok (fun b => ¬ S b ∧ b < w0.heap.size) w) :
    Calls Tryz.prog 31 #[.pointer (some ⟨p, 0, none⟩), q.val] w fun en w' => en = .returned (.tuple #[]) ∧ WAt S w0 p (q.eff s) w' := by
  have hlt := pk_lt q.wh
  have hk : pk q.wh = 0 ∨ pk q.wh = 1 ∨ pk q.wh = 2 ∨ pk q.wh = 3 ∨ pk q.wh = 4 ∨ pk q.wh = 5 ∨ pk q.wh = 6 ∨ pk q.wh = 7 ∨ pk q.wh = 8 ∨ pk q.wh = 9 ∨ pk q.wh = 10 := by omega
  unfold Sp.eff Sp.val
  rcases hk with e | e | e | e | e | e | e | e | e | e | e <;> rw [e]
  · exact put_num S w0 p s q.wh q.le q.mo q.nn ok.n2 _ _ _ _ _ _ _ w h ok.w1 ok.w2 (by rw [e]; rfl)
  · exact put_word S w0 p s q.wh q.X ok.x _ _ _ _ _ _ _ _ _ w h ok.w1 ok.w2 (by rw [e]; rfl)
  · exact put_flag S w0 p s q.wh q.F _ _ _ _ _ _ _ _ _ w h ok.w1 ok.w2 (by rw [e]; rfl)
  · exact put_text S w0 p s q.wh q.mo q.st ok.s _ _ _ _ _ _ _ _ w h ok.w1 ok.w2 (by rw [e]; rfl)
  · exact put_blob S w0 p s q.wh q.mo q.aB q.nB q.cB q.lB ok.bn ok.b0 _ _ _ _ _ _ _ _ w h ok.w1 ok.w2 (by rw [e]; rfl) ok.b ok.bd
  · exact put_list S w0 p s q.wh q.le q.mo q.aL q.nL q.cL q.L _ _ _ _ _ _ _ w h ok.w1 ok.w2 (by rw [e]; rfl) ok.l ok.ly
  · exact put_texts S w0 p s q.wh q.mo q.nn q.aT q.nT q.cT q.T _ _ _ _ _ _ _ w h ok.w1 ok.w2 (by rw [e]; rfl) ok.t ok.ty
  · exact put_lists S w0 p s q.wh q.le q.mo q.nn q.aD q.nD q.cD q.vs q.ls _ _ _ _ _ _ w h ok.w1 ok.w2 (by rw [e]; rfl) ok.d ok.dl
  · exact put_words S w0 p s q.wh q.mo q.aL q.nL q.cL q.L _ _ _ _ _ _ _ _ w h ok.w1 ok.w2 (by rw [e]; rfl) ok.l ok.ln
  · exact put_fail S w0 p s q.wh _ _ _ _ _ _ _ _ _ _ w h ok.w1 ok.w2 (by rw [e]; rfl)
  · exact put_look S w0 p s q.wh _ _ _ _ _ _ _ _ _ _ w h ok.w1 ok.w2 (by rw [e]; rfl)
theorem len_iv {D : Nat → Prop} {w : World} {a : Option Addr} {n : Nat} {l : List Int} (h : Els D w a n (iv l)) : n = l.length := by have := h.1; unfold iv at this; rw [List.length_map] at this; exact this
theorem len_sv {D : Nat → Prop} {w : World} {a : Option Addr} {n : Nat} {l : List ByteArray} (h : Els D w a n (sv l)) : n = l.length := by have := h.1; unfold sv at this; rw [List.length_map] at this; exact this
theorem laid_any (S : Nat → Prop) (w0 : World) (p : Nat) (s : K.WS) (q : Sp) (w : World) (h : VAt S w0 p s w) (ok : q.Ok (fun b => ¬ S b ∧ b < w0.heap.size) w) :
    Calls Tryz.prog 32 #[.pointer (some ⟨p, 0, none⟩), q.val] w fun en w' => en = .returned (.tuple #[]) ∧ VAt S w0 p (q.eff s) w' := by
  have hlt := pk_lt q.wh
  have hk : pk q.wh = 0 ∨ pk q.wh = 1 ∨ pk q.wh = 2 ∨ pk q.wh = 3 ∨ pk q.wh = 4 ∨ pk q.wh = 5 ∨ pk q.wh = 6 ∨ pk q.wh = 7 ∨ pk q.wh = 8 ∨ pk q.wh = 9 ∨ pk q.wh = 10 := by omega
  unfold Sp.eff Sp.val
  rcases hk with e | e | e | e | e | e | e | e | e | e | e <;> rw [e]
  · exact laid_num S w0 p s q.wh q.le q.mo q.nn ok.n2 _ _ _ _ _ _ _ w h ok.w1 ok.w2 (by rw [e]; rfl)
  · exact laid_word S w0 p s q.wh q.X ok.x _ _ _ _ _ _ _ _ _ w h ok.w1 ok.w2 (by rw [e]; rfl)
  · exact laid_flag S w0 p s q.wh q.F _ _ _ _ _ _ _ _ _ w h ok.w1 ok.w2 (by rw [e]; rfl)
  · exact laid_text S w0 p s q.wh q.mo q.st ok.s _ _ _ _ _ _ _ _ w h ok.w1 ok.w2 (by rw [e]; rfl)
  · exact laid_blob S w0 p s q.wh q.mo q.aB q.nB q.cB q.lB ok.bn ok.b0 _ _ _ _ _ _ _ _ w h ok.w1 ok.w2 (by rw [e]; rfl) ok.b
  · refine (laid_list S w0 p s q.wh q.le q.mo q.aL q.nL q.cL q.L _ _ _ _ _ _ _ w h ok.w1 ok.w2 (by rw [e]; rfl) ok.l ok.ly).mono fun en w' h' => ⟨h'.1, ?_⟩
    show VAt S w0 p (putW (listW (min q.mo 16777216) (q.L.map (numW q.le 9223372036854775807))) s) w'
    rw [list_puts _ _ (fun f hf => by obtain ⟨y, _, rfl⟩ := List.mem_map.1 hf; exact grow_num _ _ _), List.length_map, ← len_iv ok.l]
    exact h'.2
  · refine (laid_texts S w0 p s q.wh q.mo q.nn q.aT q.nT q.cT q.T _ _ _ _ _ _ _ w h ok.w1 ok.w2 (by rw [e]; rfl) ok.t ok.ty).mono fun en w' h' => ⟨h'.1, ?_⟩
    show VAt S w0 p (putW (listW (min q.mo 16777216) (q.T.map fun t => textW q.nn (sb t))) s) w'
    rw [list_puts _ _ (fun f hf => by obtain ⟨y, _, rfl⟩ := List.mem_map.1 hf; exact grow_text _ _), List.length_map, ← len_sv ok.t]
    exact h'.2
  · refine (laid_lists S w0 p s q.wh q.le q.mo q.nn q.aD q.nD q.cD q.vs q.ls _ _ _ _ _ _ w h ok.w1 ok.w2 (by rw [e]; rfl) ok.d ok.dl).mono fun en w' h' => ⟨h'.1, ?_⟩
    show VAt S w0 p (putW (listW (min q.mo 16777216) (q.ls.map fun d => listW (min q.le 16777216) (d.map (numW 0 q.nn)))) s) w'
    rw [list_puts _ _ (fun f hf => by obtain ⟨y, _, rfl⟩ := List.mem_map.1 hf; exact grow_list _ _ fun f hf => by obtain ⟨z, _, rfl⟩ := List.mem_map.1 hf; exact grow_num _ _ _), List.length_map, ← ok.d.1.trans ok.dl.1]
    exact h'.2
  · refine (laid_words S w0 p s q.wh q.mo q.aL q.nL q.cL q.L _ _ _ _ _ _ _ _ w h ok.w1 ok.w2 (by rw [e]; rfl) ok.l ok.ly).mono fun en w' h' => ⟨h'.1, ?_⟩
    show VAt S w0 p (putW (listW (min q.mo 16777216) (q.L.map fun y => wordW (wd y))) s) w'
    rw [list_puts _ _ (fun f hf => by obtain ⟨y, _, rfl⟩ := List.mem_map.1 hf; exact grow_word _), List.length_map, ← len_iv ok.l]
    exact h'.2
  · exact laid_fail S w0 p s q.wh _ _ _ _ _ _ _ _ _ _ w h ok.w1 ok.w2 (by rw [e]; rfl)
  · exact laid_look S w0 p s q.wh _ _ _ _ _ _ _ _ _ _ w h ok.w1 ok.w2 (by rw [e]; rfl)
end Wm
end Go.Proofs.YtoelgcagahmndaaGreat
