/- The law's took of a step, whatever its kind. -/
import Derived.Test.YtoelgcagahmndaaGreatPTo5
import Derived.Test.YtoelgcagahmndaaGreatPPuA
namespace Go.Proofs.YtoelgcagahmndaaGreat
namespace Wm
open Go.RowKit Go.Deep

/-- the reader behind a step -/
def Sp.rdK (q : Sp) (s : K.RS) : Nat → K.RS
  | 0 => takeR (numR q.le q.mo) s
  | 1 => takeR wordR s
  | 2 => takeR flagR s
  | 3 => takeR (rowR q.mo) s
  | 4 => takeR (rowR q.mo) s
  | 5 => takeR (listR (min q.mo 16777216) (numR q.le 9223372036854775807)) s
  | 6 => takeR (listR (min q.mo 16777216) (rowR q.nn)) s
  | 7 => takeR (listR (min q.mo 16777216) (listR (min q.le 16777216) (numR 0 q.nn))) s
  | 8 => takeR (listR (min q.mo 16777216) wordR) s
  | 9 => s.fail 22
  | _ => s
def Sp.rd (q : Sp) (s : K.RS) : K.RS := q.rdK s (pk q.wh)
/-- what it tells -/
def Sp.tdK (q : Sp) (s : K.RS) : Nat → Td
  | 0 => { td0 with N := okR (numR q.le q.mo) s ((numV s : Nat) : Int) 0 }
  | 1 => { td0 with W := okR wordR s (wordV s) 0 }
  | 2 => { td0 with F := okR flagR s (flagV s) false }
  | 3 => { td0 with S := okR (rowR q.mo) s (str (rowV q.mo s)) ⟨#[]⟩ }
  | 4 => { td0 with S := str (okR (rowR q.mo) s (rowV q.mo s) []) }
  | 5 => { td0 with L := lvI (min q.mo 16777216) q.le 9223372036854775807 s }
  | 6 => { td0 with T := lvS (min q.mo 16777216) q.nn s }
  | 7 => { td0 with D := lvD (min q.mo 16777216) (min q.le 16777216) q.nn s }
  | 8 => { td0 with L := (lvW (min q.mo 16777216) s).map sg }
  | _ => td0
def Sp.td (q : Sp) (s : K.RS) : Td := q.tdK s (pk q.wh)
theorem took_any (r : Nat) (s : K.RS) (q : Sp) (w : World) (h : Rr w r s) (w1 : -9223372036854775808 ≤ q.wh) (w2 : q.wh ≤ 9223372036854775807) :
    Calls Tryz.prog 33 #[.pointer (some ⟨r, 0, none⟩), q.val] w (TkE r (q.rd s) (q.td s) w) := by
  have hlt := pk_lt q.wh
  have hk : pk q.wh = 0 ∨ pk q.wh = 1 ∨ pk q.wh = 2 ∨ pk q.wh = 3 ∨ pk q.wh = 4 ∨ pk q.wh = 5 ∨ pk q.wh = 6 ∨ pk q.wh = 7 ∨ pk q.wh = 8 ∨ pk q.wh = 9 ∨ pk q.wh = 10 := by omega
  unfold Sp.rd Sp.td Sp.val
  rcases hk with e | e | e | e | e | e | e | e | e | e | e <;> rw [e]
  · exact took_num r s q.wh q.le q.mo q.nn _ _ _ _ _ _ _ w h w1 w2 (by rw [e]; rfl)
  · exact took_word r s q.wh _ _ _ _ _ _ _ _ _ _ w h w1 w2 (by rw [e]; rfl)
  · exact took_flag r s q.wh _ _ _ _ _ _ _ _ _ _ w h w1 w2 (by rw [e]; rfl)
  · exact took_text r s q.wh q.mo _ _ _ _ _ _ _ _ _ w h w1 w2 (by rw [e]; rfl)
  · exact took_blob r s q.wh q.mo _ _ _ _ _ _ _ _ _ w h w1 w2 (by rw [e]; rfl)
  · exact took_ints r s q.wh q.le q.mo _ _ _ _ _ _ _ _ w h w1 w2 (by rw [e]; rfl)
  · exact took_texts r s q.wh q.mo q.nn _ _ _ _ _ _ _ _ w h w1 w2 (by rw [e]; rfl)
  · exact took_rows r s q.wh q.le q.mo q.nn _ _ _ _ _ _ _ w h w1 w2 (by rw [e]; rfl)
  · exact took_words r s q.wh q.mo _ _ _ _ _ _ _ _ _ w h w1 w2 (by rw [e]; rfl)
  · exact took_fail r s q.wh _ _ _ _ _ _ _ _ _ _ w h w1 w2 (by rw [e]; rfl)
  · exact took_look r s q.wh _ _ _ _ _ _ _ _ _ _ w h w1 w2 (by rw [e]; rfl)
end Wm
end Go.Proofs.YtoelgcagahmndaaGreat
