/- DiskPlays: the document's Crash: between; what stands between two rounds. -/
import Derived.Test.YtilpidioengnbaaDTy
namespace Go.Proofs.Ytilpidioengnbaa
namespace DP
open Go.RowKit

/-- a number, brought between two others -/
def betV (n a b : Int) : Int := if n < a then a else if b < n then b else n
theorem between_any (n a b : Int) (w : World) :
    Calls Try.prog 46 #[.int .i64 n, .int .i64 a, .int .i64 b] w fun e w' => e = .returned (.int .i64 (betV n a b)) ∧ w' = w := by
  unfold betV
  by_cases h1 : n < a
  · rw [if_pos h1]
    go_enter Try.func46, Try.ntmps46
    go_wp2
    go_ret
    exact ⟨rfl, rfl⟩
  · rw [if_neg h1]
    by_cases h2 : b < n
    · rw [if_pos h2]
      have h2' : n > b := h2
      go_enter Try.func46, Try.ntmps46
      go_wp2
      go_ret
      exact ⟨rfl, rfl⟩
    · rw [if_neg h2]
      have h2' : ¬ n > b := h2
      go_enter Try.func46, Try.ntmps46
      go_wp2
      go_ret
      exact ⟨rfl, rfl⟩
/-- a beginning of a row -/
theorem row_take {w : World} {a : Option Addr} {n c : Nat} {l : List Nat} (h : Row w (.slice a n c) l) {k : Nat} (hk : k ≤ l.length) : Row w (.slice a k c) (l.take k) := by
  rcases h.parts with ⟨e, rfl⟩ | ⟨g, cap, cur, e, h1, h2, h3, h4, h5⟩
  · injection e with e1 e2 e3
    subst e1 e3
    obtain rfl : k = 0 := by simpa using hk
    exact row_nil w
  · injection e with e1 e2 e3
    subst e1 e3
    have hl : (l.take k).length = k := by rw [List.length_take]; omega
    have hr := row_mk (l := l.take k) h1 (by omega) h3 h4 (by
      rw [hl]
      have h6 : cur.take k = (cur.take l.length).take k := by rw [List.take_take, Nat.min_eq_left hk]
      rw [h6, h5]
      unfold B8
      rw [List.map_take]) (fun d hd => h.2 d (List.mem_of_mem_take hd))
    rw [hl] at hr
    exact hr
theorem headD_drop (z : List Int) (p : Nat) : (z.drop p).headD 0 = z.getD p 0 := by
  rw [List.headD_eq_head?_getD, List.head?_drop, List.getD_eq_getElem?_getD]
theorem drop_at {L : List Sv} {i : Nat} {e : Sv} (h : L[i]? = some e) : (L.drop i).map Sv.sg = e.sg :: (L.drop (i + 1)).map Sv.sg := by
  obtain ⟨hi, he⟩ := List.getElem?_eq_some_iff.1 h
  rw [List.drop_eq_getElem_cons hi, he]
  rfl
theorem drop_end {L : List Sv} {i : Nat} (h : i = L.length) : (L.drop i).map Sv.sg = [] := by rw [h, List.drop_length]; rfl
theorem crash_new {t : Sg} {ts sf : List Sg} {z : List Int} (h : sf = [] ∨ ∃ x r, sf = x :: r ∧ t.1 < x.1) : crashS (t :: ts) sf z = keep1 t (z.headD 0) ++ crashS ts sf z.tail := by
  rcases h with rfl | ⟨x, r, rfl, h⟩
  · rw [crashS]
  · rw [crashS, if_pos h]
theorem crash_gone {s : Sg} {ss th : List Sg} {z : List Int} (h : th = [] ∨ ∃ x r, th = x :: r ∧ ¬ x.1 < s.1 ∧ s.1 < x.1) : crashS th (s :: ss) z = keep2 s (z.headD 0) ++ crashS th ss z.tail := by
  rcases h with rfl | ⟨x, r, rfl, h0, h⟩
  · rw [crashS]
  · rw [crashS, if_neg h0, if_pos h]
theorem crash_grown {t s : Sg} {ts ss : List Sg} {z : List Int} (h1 : ¬ t.1 < s.1) (h2 : ¬ s.1 < t.1) (h3 : s.2.length < t.2.length) : crashS (t :: ts) (s :: ss) z = (t.1, t.2.take (s.2.length + (z.headD 0).toNat)) :: crashS ts ss z.tail := by
  rw [crashS, if_neg h1, if_neg h2, if_pos h3]
theorem crash_same {t s : Sg} {ts ss : List Sg} {z : List Int} (h1 : ¬ t.1 < s.1) (h2 : ¬ s.1 < t.1) (h3 : ¬ s.2.length < t.2.length) : crashS (t :: ts) (s :: ss) z = t :: crashS ts ss z := by
  rw [crashS, if_neg h1, if_neg h2, if_neg h3]

/-- what stands between two rounds of Crash -/
structure CrI (w : World) (th sf : List Sv) (z : List Int) (i j p : Nat) (out : List Sv) : Prop where
  eq : crashS (th.map Sv.sg) (sf.map Sv.sg) z = out.map Sv.sg ++ crashS ((th.drop i).map Sv.sg) ((sf.drop j).map Sv.sg) (z.drop p)
  by8 : ∀ e ∈ out, Row w e.v e.b
  len : out.length ≤ i + j
  p_ : p ≤ i + j
  bl : ∀ e ∈ out, e.b.length ≤ 67108864
theorem CrI.begin_ (w : World) (th sf : List Sv) (z : List Int) : CrI w th sf z 0 0 0 [] := ⟨rfl, fun e he => (by cases he), Nat.zero_le _, Nat.zero_le _, fun e he => (by cases he)⟩
theorem CrI.end_ {w : World} {th sf : List Sv} {z : List Int} {p : Nat} {out : List Sv} (h : CrI w th sf z th.length sf.length p out) : out.map Sv.sg = crashS (th.map Sv.sg) (sf.map Sv.sg) z := by
  rw [h.eq, List.drop_length, List.drop_length]
  simp [crashS]
section
variable {w : World} {th sf : List Sv} {z : List Int} {i j p : Nat} {out : List Sv}
theorem CrI.put (h : CrI w th sf z i j p out) {i' j' p' : Nat} {x : Sv} (hx : crashS ((th.drop i).map Sv.sg) ((sf.drop j).map Sv.sg) (z.drop p) = x.sg :: crashS ((th.drop i').map Sv.sg) ((sf.drop j').map Sv.sg) (z.drop p')) (hr : Row w x.v x.b) (hb : x.b.length ≤ 67108864) (h1 : i + j + 1 ≤ i' + j') (h2 : p' ≤ i' + j') : CrI w th sf z i' j' p' (out ++ [x]) := by
  refine ⟨?_, fun e he => ?_, ?_, h2, fun e he => ?_⟩
  · rw [h.eq, hx, List.map_append, List.append_assoc]
    rfl
  · rcases List.mem_append.1 he with he | he
    · exact h.by8 e he
    · simp at he; subst he; exact hr
  · have := h.len
    rw [List.length_append, List.length_singleton]
    omega
  · rcases List.mem_append.1 he with he | he
    · exact h.bl e he
    · simp at he; subst he; exact hb
theorem CrI.pass (h : CrI w th sf z i j p out) {i' j' p' : Nat} (hx : crashS ((th.drop i).map Sv.sg) ((sf.drop j).map Sv.sg) (z.drop p) = crashS ((th.drop i').map Sv.sg) ((sf.drop j').map Sv.sg) (z.drop p')) (h1 : i + j + 1 ≤ i' + j') (h2 : p' ≤ i' + j') : CrI w th sf z i' j' p' out :=
  ⟨by rw [h.eq, hx], h.by8, by have := h.len; omega, h2, h.bl⟩
/-- is the next one new? -/
def NewOf (sf : List Sv) (j : Nat) (e : Sv) : Prop := j = sf.length ∨ ∃ x, sf[j]? = some x ∧ e.k < x.k
/-- is the next one taken away? -/
def GoneOf (th : List Sv) (i : Nat) (s : Sv) : Prop := i = th.length ∨ ∃ x, th[i]? = some x ∧ ¬ x.k < s.k ∧ s.k < x.k
theorem NewOf.sg {e : Sv} (h : NewOf sf j e) : (sf.drop j).map Sv.sg = [] ∨ ∃ x r, (sf.drop j).map Sv.sg = x :: r ∧ e.sg.1 < x.1 := by
  rcases h with h | ⟨x, hx, h⟩
  · exact .inl (drop_end h)
  · exact .inr ⟨_, _, drop_at hx, h⟩
theorem GoneOf.sg {s : Sv} (h : GoneOf th i s) : (th.drop i).map Sv.sg = [] ∨ ∃ x r, (th.drop i).map Sv.sg = x :: r ∧ ¬ x.1 < s.sg.1 ∧ s.sg.1 < x.1 := by
  rcases h with h | ⟨x, hx, h0, h⟩
  · exact .inl (drop_end h)
  · exact .inr ⟨_, _, drop_at hx, h0, h⟩
theorem CrI.newY (h : CrI w th sf z i j p out) {e : Sv} (he : th[i]? = some e) (hn : NewOf sf j e) (hF : 0 < z.getD p 0) {ba : Option Addr} {bc K : Nat} (hv : e.v = .slice ba e.b.length bc) (hr : Row w e.v e.b) (hb : e.b.length ≤ 67108864) (hK : (K : Int) = betV (z.getD p 0 - 1) 0 e.b.length) :
    CrI w th sf z (i + 1) j (p + 1) (out ++ [⟨e.k, e.b.take K, .slice ba K bc⟩]) := by
  unfold betV at hK
  have hKl : K ≤ e.b.length := by
    split at hK
    · omega
    · split at hK <;> omega
  refine h.put ?_ (row_take (hv ▸ hr) hKl) ?_ (by omega) (by have := h.p_; omega)
  · rw [drop_at he, crash_new hn.sg, headD_drop, List.tail_drop]
    unfold keep1
    rw [if_pos hF]
    show _ :: _ = _ :: _
    congr 1
    show (e.k, _) = (e.k, _)
    congr 1
    show e.b.take _ = e.b.take K
    split at hK
    · omega
    · split at hK
      · rw [List.take_of_length_le (by omega), List.take_of_length_le (by omega)]
      · congr 1
        omega
  · rw [List.length_take]
    omega
theorem CrI.newN (h : CrI w th sf z i j p out) {e : Sv} (he : th[i]? = some e) (hn : NewOf sf j e) (hF : ¬ 0 < z.getD p 0) : CrI w th sf z (i + 1) j (p + 1) out := by
  refine h.pass ?_ (by omega) (by have := h.p_; omega)
  rw [drop_at he, crash_new hn.sg, headD_drop, List.tail_drop]
  unfold keep1
  rw [if_neg hF]
  rfl
theorem CrI.goneY (h : CrI w th sf z i j p out) {s : Sv} (hs : sf[j]? = some s) (hn : GoneOf th i s) (hF : 0 < z.getD p 0) (hr : Row w s.v s.b) (hb : s.b.length ≤ 67108864) : CrI w th sf z i (j + 1) (p + 1) (out ++ [s]) := by
  refine h.put ?_ hr hb (by omega) (by have := h.p_; omega)
  rw [drop_at hs, crash_gone hn.sg, headD_drop, List.tail_drop]
  unfold keep2
  rw [if_pos hF]
  rfl
theorem CrI.goneN (h : CrI w th sf z i j p out) {s : Sv} (hs : sf[j]? = some s) (hn : GoneOf th i s) (hF : ¬ 0 < z.getD p 0) : CrI w th sf z i (j + 1) (p + 1) out := by
  refine h.pass ?_ (by omega) (by have := h.p_; omega)
  rw [drop_at hs, crash_gone hn.sg, headD_drop, List.tail_drop]
  unfold keep2
  rw [if_neg hF]
  rfl
theorem CrI.grown (h : CrI w th sf z i j p out) {e s : Sv} (he : th[i]? = some e) (hs : sf[j]? = some s) (h1 : ¬ e.k < s.k) (h2 : ¬ s.k < e.k) (h3 : s.b.length < e.b.length) {ba : Option Addr} {bc K : Nat} (hv : e.v = .slice ba e.b.length bc) (hr : Row w e.v e.b) (hb : e.b.length ≤ 67108864) (hK : (K : Int) = s.b.length + betV (z.getD p 0) 0 (e.b.length - s.b.length)) :
    CrI w th sf z (i + 1) (j + 1) (p + 1) (out ++ [⟨e.k, e.b.take K, .slice ba K bc⟩]) := by
  unfold betV at hK
  have hKl : K ≤ e.b.length := by
    split at hK
    · omega
    · split at hK <;> omega
  refine h.put ?_ (row_take (hv ▸ hr) hKl) ?_ (by omega) (by have := h.p_; omega)
  · rw [drop_at he, drop_at hs, crash_grown (t := e.sg) (s := s.sg) h1 h2 h3, headD_drop, List.tail_drop]
    congr 1
    show (e.k, _) = (e.k, _)
    congr 1
    show e.b.take (s.b.length + _) = e.b.take K
    split at hK
    · congr 1
      omega
    · split at hK
      · rw [List.take_of_length_le (by omega), List.take_of_length_le (by omega)]
      · congr 1
        omega
  · rw [List.length_take]
    omega
theorem CrI.same (h : CrI w th sf z i j p out) {e s : Sv} (he : th[i]? = some e) (hs : sf[j]? = some s) (h1 : ¬ e.k < s.k) (h2 : ¬ s.k < e.k) (h3 : ¬ s.b.length < e.b.length) (hr : Row w e.v e.b) (hb : e.b.length ≤ 67108864) : CrI w th sf z (i + 1) (j + 1) p (out ++ [e]) := by
  refine h.put ?_ hr hb (by omega) (by have := h.p_; omega)
  rw [drop_at he, drop_at hs, crash_same (t := e.sg) (s := s.sg) h1 h2 h3]
end
end DP
end Go.Proofs.Ytilpidioengnbaa
