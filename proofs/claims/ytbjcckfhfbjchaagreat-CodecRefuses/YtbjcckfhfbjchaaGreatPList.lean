import Derived.Test.YtbjcckfhfbjchaaGreatPTake
import Derived.Lib.AppendStr
/- Package pack: NewReader, End, Read; the take of Numbers. -/
namespace Go.Proofs.YtbjcckfhfbjchaaGreat
open Go.RowKit

/-- a new reader over bytes -/
def newR (l : List Nat) : K.RS := if l.length ≤ 16777216 then ⟨l, 0, 0⟩ else ⟨[], 0, 20⟩

/-- what End tells -/
def endR (s : K.RS) : Nat := if s.fault = 0 ∧ s.taken < s.data.length then 23 else s.fault

theorem NewReader_any (a : Option Addr) (n c : Nat) (l : List Nat) (w : World) (h : Rd w a n l) (h0 : a = none → c = 0) :
    Calls Tryz.prog 65 #[.slice a n c] w fun en w' => ∃ q, en = .returned (.pointer (some ⟨q, 0, none⟩)) ∧ Rr w' q (newR l) ∧ w.heap.size ≤ q ∧ Below w.heap.size w w' := by
  have HR := hide h
  have H0 := hide h0
  have hl := h.1
  have hn := h.2.1
  have HL := hide hl
  clear h h0 hl
  unfold newR
  by_cases hlt : n ≤ 16777216
  · rw [if_pos (by have := HL.out; omega)]
    go_enter Tryz.func65, Tryz.ntmps65
    go_wp2_with fail
    refine (clone_any a n c l _ HR.out H0.out (by omega)).mono ?_
    rintro e w1 ⟨v, rfl, ho, hb⟩
    obtain ⟨a', c', rfl, hr, h0', hc', _⟩ := ownsRow_rd ho HR.out.2.2.1 (by have := HL.out; omega)
    have HR' := hide hr
    have H0' := hide h0'
    have HB := hide hb
    have HC := hide hc'
    have HO := hide ho
    clear ho hr h0' hb hc'
    go_wp2
    go_ret
    refine ⟨w1.heap.size, rfl, ⟨⟨a', c', heap_alloc_new w1 _, HR'.out.keep ((Below.refl _ _).alloc (Nat.le_refl _) _), H0'.out, HC.out, ?_⟩, Nat.zero_le _, by have := HL.out; show l.length ≤ _; omega⟩, HB.out.size, HB.out.alloc HB.out.size _⟩
    intro b off e
    exact (HO.out.lt b (by rw [e]; rfl)).2
  · rw [if_neg (by have := HL.out; omega)]
    go_enter Tryz.func65, Tryz.ntmps65
    go_wp2
    go_ret
    exact ⟨w.heap.size, rfl, ⟨⟨none, 0, heap_alloc_new w _, ⟨rfl, by decide, (fun d hd => by cases hd), .inl rfl⟩, (fun _ => rfl), Nat.le_refl _, (fun b off e => by cases e)⟩, Nat.zero_le _, Nat.zero_le _⟩, Nat.le_refl _, (Below.refl _ _).alloc (Nat.le_refl _) _⟩

theorem End_any (q : Nat) (s : K.RS) (w : World) (h : Rr w q s) :
    Calls Tryz.prog 67 #[.pointer (some ⟨q, 0, none⟩)] w fun en w' => en = .returned (.int .i64 (endR s : Nat)) ∧ Below w.heap.size w w' := by
  have HR := hide h
  obtain ⟨a, c, _, _, c2, _⟩ := h.see
  have htk := h.tak
  have htp := h.top
  clear h
  unfold endR
  by_cases hz : s.fault = 0
  · have HZ := hide hz
    have c2' : w.cell? ⟨q, 2, none⟩ = some (.int .i64 0) := by rw [c2, hz]; rfl
    rw [hz]
    clear hz c2
    by_cases hlt : s.taken < s.data.length
    · rw [if_pos ⟨rfl, hlt⟩]
      go_enter Tryz.func67, Tryz.ntmps67
      go_wp2_with fail
      refine (left_any q s _ HR.out).mono ?_
      rintro e w1 ⟨a', c', rfl, hr, h0', hc', hb⟩
      clear hr h0'
      go_wp2
      go_ret
      exact ⟨rfl, hb⟩
    · rw [if_neg (by omega)]
      go_enter Tryz.func67, Tryz.ntmps67
      go_wp2_with fail
      refine (left_any q s _ HR.out).mono ?_
      rintro e w1 ⟨a', c', rfl, hr, h0', hc', hb⟩
      obtain ⟨_, _, _, _, d2, _⟩ := (HR.out.below hb).see
      have d2' : w1.cell? ⟨q, 2, none⟩ = some (.int .i64 0) := by rw [d2, HZ.out]; rfl
      clear hr h0' d2 c2'
      go_wp2
      go_ret
      exact ⟨rfl, hb⟩
  · rw [if_neg (by omega)]
    have hzz : (((s.fault : Nat) : Int) == 0) = false := by simpa using hz
    clear hz
    go_enter Tryz.func67, Tryz.ntmps67
    go_wp2
    go_ret
    exact ⟨rfl, Below.refl _ _⟩

/-- what a take does, in whatever world in which the blocks of D read as in w -/
def TakesG (D : Nat → Prop) (w : World) (fn : FuncId) (cap : Array Value) (g : K.RS → K.RS) (V : K.RS → World → Value → Prop) : Prop :=
  ∀ q s w1, Agree D w w1 → ¬ D q → Rr w1 q s → s.fault = 0 → Takes w1 q fn cap (g s) (V s)

theorem TakesG.mono {D E : Nat → Prop} {w w2 : World} {fn : FuncId} {cap : Array Value} {g : K.RS → K.RS} {V : K.RS → World → Value → Prop} (h : TakesG D w fn cap g V) (hE : ∀ k, D k → E k) (ha : Agree D w w2) : TakesG E w2 fn cap g V :=
  fun q s w1 h1 h2 h3 h4 => h q s w1 (ha.trans (h1.mono hE)) (fun hd => h2 (hE q hd)) h3 h4

/-- Take: nothing behind a fault -/
def takeR (g : K.RS → K.RS) (s : K.RS) : K.RS := if s.fault = 0 then g s else s

theorem endR_ok {s : K.RS} (h : endR s = 0) : s.fault = 0 := by
  unfold endR at h
  split at h
  · cases h
  · exact h

end Go.Proofs.YtbjcckfhfbjchaaGreat

/- Package pack: the take of Numbers. -/
namespace Go.Proofs.YtbjcckfhfbjchaaGreat
open Go.RowKit

/-- the bytes that are left -/
def rest (s : K.RS) : List Nat := s.data.drop s.taken

/-- a reader that has taken z bytes more -/
def K.RS.go (s : K.RS) (z : Nat) : K.RS := { s with taken := s.taken + z }

def numR (least most : Int) (s : K.RS) : K.RS := match K.pk (rest s) with
  | .ok (n, z) => if (n : Int) < least ∨ most < (n : Int) then s.fail 22 else s.go z
  | .error e => s.fail e
def numV (s : K.RS) : Nat := match K.pk (rest s) with
  | .ok (n, _) => n
  | .error _ => 0

theorem Rr.byt {w : World} {q : Nat} {s : K.RS} (h : Rr w q s) : ∀ d ∈ rest s, d < 256 := by
  obtain ⟨a, c, hb, hr, _⟩ := h.ex
  exact fun d hd => hr.2.2.1 d (List.mem_of_mem_drop hd)

theorem fail_ne {s : K.RS} {e : Nat} (h : s.fault = 0) (he : e ≠ 0) : (s.fail e).fault ≠ 0 := by unfold K.RS.fail; rw [if_pos h]; exact he
theorem rest_len (s : K.RS) : (rest s).length = s.data.length - s.taken := by simp [rest]

theorem pk_err {l : List Nat} {e : Nat} (h : K.pk l = .error e) : e = 21 ∨ e = 22 := by
  have : ∀ k i m l, K.pkGo k i m l = .error e → e = 21 ∨ e = 22 := by
    intro k
    induction k with
    | zero => intro i m l h; simp [K.pkGo] at h; exact .inr h.symm
    | succ k ih =>
      intro i m l h
      cases l with
      | nil => simp [K.pkGo] at h; exact .inl h.symm
      | cons b l =>
        simp only [K.pkGo] at h
        split at h
        · exact ih _ _ _ h
        · split at h
          · injection h with h; exact .inr h.symm
          · cases h
  exact this _ _ _ _ h

set_option maxRecDepth 10000 in
theorem takeNum (q l m : Nat) (least most : Int) (s : K.RS) (w : World) (h : Rr w q s) (hz : s.fault = 0) (hl : w.cell? ⟨l, 0, none⟩ = some (.int .i64 least)) (hm : w.cell? ⟨m, 0, none⟩ = some (.int .i64 most)) :
    Takes w q 81 #[.pointer (some ⟨l, 0, none⟩), .pointer (some ⟨m, 0, none⟩)] (numR least most s) (fun _ v => v = .int .i64 (numV s : Nat)) := by
  have HH := hide h
  have HZ := hide hz
  have htp := h.top
  have htk := h.tak
  have HB := hide h.byt
  unfold Takes
  show Calls Tryz.prog 81 #[.pointer (some ⟨q, 0, none⟩), .pointer (some ⟨l, 0, none⟩), .pointer (some ⟨m, 0, none⟩)] w _
  generalize hs' : numR least most s = s'
  generalize hx : numV s = x
  have HS := hide hs'
  have HX := hide hx
  clear hs' hx
  cases hp : K.pk (rest s) with
  | error e =>
    have HP := hide hp
    have HS' : Hid (s.fail e = s') := by show _ = _; rw [← HS.out]; unfold numR; rw [hp]
    clear h hz hp
    go_enter Tryz.func81, Tryz.ntmps81
    go_wp2_with fail
    refine (peekNumber_any q s _ HH.out).mono ?_
    rintro en w1 ⟨ho, hb⟩
    have hp := HP.out
    unfold rest at hp
    rw [hp] at ho
    have hen : en = gaveUp e := ho
    subst hen
    refine ⟨rfl, Keep.ofBelow hb (Nat.le_refl _), .inr ⟨by rw [← HS'.out]; exact fail_ne HZ.out (by have := pk_err hp; omega), e, s, rfl, HH.out.below hb, HS'.out⟩⟩
  | ok r =>
    obtain ⟨n, z⟩ := r
    have hok := K.pk_ok h.byt hp
    rw [rest_len] at hok
    obtain ⟨k1, k2, k3, k4, k5⟩ := hok
    have HP := hide hp
    have HX' : Hid (n = x) := by show _ = _; rw [← HX.out]; unfold numV; rw [hp]
    clear h hz hp k4
    by_cases hb1 : (n : Int) < least
    · have HS' : Hid (s.fail 22 = s') := by show _ = _; rw [← HS.out]; unfold numR; rw [HP.out]; exact (if_pos (.inl hb1)).symm
      go_enter Tryz.func81, Tryz.ntmps81
      go_wp2_with fail
      refine (peekNumber_any q s _ HH.out).mono ?_
      rintro en w1 ⟨ho, hb⟩
      have hp := HP.out
      unfold rest at hp
      rw [hp] at ho
      have hen : en = .returned (.tuple #[.int .i64 (n : Nat), .int .i64 (z : Nat)]) := ho
      subst hen
      have hl1 : w1.cell? ⟨l, 0, none⟩ = some (.int .i64 least) := (Keep.ofBelow (S := fun _ => False) hb (Nat.le_refl _)).cell hl (fun h => h)
      have hm1 : w1.cell? ⟨m, 0, none⟩ = some (.int .i64 most) := (Keep.ofBelow (S := fun _ => False) hb (Nat.le_refl _)).cell hm (fun h => h)
      have HR1 := hide (HH.out.below hb)
      have HK := hide (Keep.ofBelow (S := fun k => k = q) hb (Nat.le_refl _))
      obtain ⟨_, _, _, c1, _, hf⟩ := HR1.out.see
      have hf1 := hf 1
      clear ho hb hp hl hm hf
      go_wp2
      exact ⟨rfl, HK.out, .inr ⟨by rw [← HS'.out]; exact fail_ne HZ.out (by decide), 22, s, rfl, HR1.out, HS'.out⟩⟩
    · by_cases hb2 : most < (n : Int)
      · have HS' : Hid (s.fail 22 = s') := by show _ = _; rw [← HS.out]; unfold numR; rw [HP.out]; exact (if_pos (.inr hb2)).symm
        go_enter Tryz.func81, Tryz.ntmps81
        go_wp2_with fail
        refine (peekNumber_any q s _ HH.out).mono ?_
        rintro en w1 ⟨ho, hb⟩
        have hp := HP.out
        unfold rest at hp
        rw [hp] at ho
        have hen : en = .returned (.tuple #[.int .i64 (n : Nat), .int .i64 (z : Nat)]) := ho
        subst hen
        have hl1 : w1.cell? ⟨l, 0, none⟩ = some (.int .i64 least) := (Keep.ofBelow (S := fun _ => False) hb (Nat.le_refl _)).cell hl (fun h => h)
        have hm1 : w1.cell? ⟨m, 0, none⟩ = some (.int .i64 most) := (Keep.ofBelow (S := fun _ => False) hb (Nat.le_refl _)).cell hm (fun h => h)
        have HR1 := hide (HH.out.below hb)
        have HK := hide (Keep.ofBelow (S := fun k => k = q) hb (Nat.le_refl _))
        obtain ⟨_, _, _, c1, _, hf⟩ := HR1.out.see
        have hf1 := hf 1
        clear ho hb hp hl hm hf
        go_wp2
        exact ⟨rfl, HK.out, .inr ⟨by rw [← HS'.out]; exact fail_ne HZ.out (by decide), 22, s, rfl, HR1.out, HS'.out⟩⟩
      · have HS' : Hid (s.go z = s') := by show _ = _; rw [← HS.out]; unfold numR; rw [HP.out]; exact (if_neg (by omega)).symm
        go_enter Tryz.func81, Tryz.ntmps81
        go_wp2_with fail
        refine (peekNumber_any q s _ HH.out).mono ?_
        rintro en w1 ⟨ho, hb⟩
        have hp := HP.out
        unfold rest at hp
        rw [hp] at ho
        have hen : en = .returned (.tuple #[.int .i64 (n : Nat), .int .i64 (z : Nat)]) := ho
        subst hen
        have hl1 : w1.cell? ⟨l, 0, none⟩ = some (.int .i64 least) := (Keep.ofBelow (S := fun _ => False) hb (Nat.le_refl _)).cell hl (fun h => h)
        have hm1 : w1.cell? ⟨m, 0, none⟩ = some (.int .i64 most) := (Keep.ofBelow (S := fun _ => False) hb (Nat.le_refl _)).cell hm (fun h => h)
        have HR1 := hide (HH.out.below hb)
        have HK := hide (Keep.ofBelow (S := fun k => k = q) hb (Nat.le_refl _))
        obtain ⟨_, _, _, c1, _, hf⟩ := HR1.out.see
        have hf1 := hf 1
        clear ho hb hp hl hm hf
        go_wp2
        go_ret
        have hs := HR1.out.set1 (s.taken + z) (by omega)
        refine ⟨HK.out.more (Keep.setCell (S := fun k => k = q) w1 (p := ⟨q, 1, none⟩) rfl _), .inl ⟨by rw [← HS'.out]; exact HZ.out, _, rfl, ?_, by rw [← HX'.out]; rfl⟩⟩
        rw [← HS'.out]
        exact hs

theorem ent_takeNum (args : Array Value) (w : World) : (callFunc 81 args).run Tryz.prog w = .ok (.enter 81 args) w :=
  callFunc_enter Tryz.func81 (by kernel_rfl) (by kernel_rfl) args w

theorem takesNum (D : Nat → Prop) (w : World) (l m : Nat) (least most : Int) (hl : w.cell? ⟨l, 0, none⟩ = some (.int .i64 least)) (hm : w.cell? ⟨m, 0, none⟩ = some (.int .i64 most)) (dl : D l) (dm : D m) :
    TakesG D w 81 #[.pointer (some ⟨l, 0, none⟩), .pointer (some ⟨m, 0, none⟩)] (numR least most) (fun s _ v => v = .int .i64 (numV s : Nat)) :=
  fun q s w1 ha _ h hz => takeNum q l m least most s w1 h hz (ha.cell hl dl) (ha.cell hm dm)

end Go.Proofs.YtbjcckfhfbjchaaGreat

/- Package pack: the put of Texts and of Blobs. -/
namespace Go.Proofs.YtbjcckfhfbjchaaGreat
open Go.RowKit

/-- a string's bytes -/
def sb (s : ByteArray) : List Nat := s.data.toList.map fun b => b.toNat
theorem sb_len (s : ByteArray) : (sb s).length = s.size := by
  rw [sb, List.length_map, Array.length_toList]
  rfl
theorem sb_lt (s : ByteArray) : ∀ d ∈ sb s, d < 256 := by
  intro d hd
  simp only [sb, List.mem_map] at hd
  obtain ⟨b, _, rfl⟩ := hd
  exact b.toNat_lt
theorem sb_cells (s : ByteArray) : Lib.strCells s = B8 (sb s) := by simp [Lib.strCells, B8, sb]

/-- a string's bytes appended to a row of the call's own -/
theorem wpList_append_str {w : World} {ops : Array Oper} {rest : List Oper} {o : Oper} {ac : Act} {Q : Exit → Act → World → Prop} (hgd : o.guard = none) (s x : Operand)
    (ho : o.op = .call { callee := .builtin .append, args := #[s, x], argTypes := #[24, 9] })
    (v : Value) (xs : List Nat) (base : Nat) (hs : ac.eval s = v) (hown : w.ownsRow base 5 1 v xs.length (B8 xs))
    (st : ByteArray) (hx : ac.eval x = .string st)
    (hsz : xs.length + st.size ≤ 140737488355328) (hbase : base ≤ w.heap.size)
    (h : ∀ v' w', w'.ownsRow base 5 1 v' (xs ++ sb st).length (B8 (xs ++ sb st)) → w.grownBy w' v.ownBlock → NewBlk w v v' → wpList Tryz.prog ops Q rest (ac.put o.dst v') w') : wpList Tryz.prog ops Q (o :: rest) ac w := by
  obtain ⟨i0, hi, hz0, hz1, hz2⟩ := info_parts info_u8
  have hmx : xs.length + st.size ≤ maxLen := by unfold maxLen; omega
  have hxl : (B8 xs).length = xs.length := B8_length xs
  refine wpList_plain hgd fun K hK => ?_
  have key : ∃ v' w', (Builtin.append_ #[24, 9] o.type #[v, .string st]).run Tryz.prog w = .ok v' w' ∧ w'.ownsRow base 5 1 v' (xs.length + st.size) (B8 xs ++ Lib.strCells st) ∧ w.grownBy w' v.ownBlock ∧ NewBlk w v v' := by
    rcases hown.2 with ⟨rfl, h0⟩ | ⟨g, cap, cur, rfl, hbg, hg, hnc, hcm, hcs, htake⟩
    · have hxs : xs = [] := List.eq_nil_of_length_eq_zero h0
      subst hxs
      obtain ⟨v', w', hr, h2, h3, _⟩ := Lib.run_append_own_string (P := Tryz.prog) w w.heap.size 24 9 o.type 5 i0 Tryz.underlying24 Tryz.underlying9 hi hz0 hz1 hz2 _ 0 [] (World.ownsRow_nil w _ _ 1) st (by simpa using hmx) (by simpa using hsz) (Nat.le_refl _)
      exact ⟨v', w', hr, ownsRow_base h2 hbase, h3, .inr fun k hk => (h2.lt k hk).1⟩
    · obtain ⟨v', w', hr, h2, h3, _⟩ := Lib.run_append_own_string (P := Tryz.prog) w base 24 9 o.type 5 i0 Tryz.underlying24 Tryz.underlying9 hi hz0 hz1 hz2 _ xs.length (B8 xs) hown st hmx hsz hbase
      refine ⟨v', w', hr, h2, h3, ?_⟩
      by_cases hroom : xs.length + st.size ≤ cap
      · have hr2 := Lib.run_append_room_string (P := Tryz.prog) w 24 9 o.type 5 i0 Tryz.underlying24 Tryz.underlying9 hi hz1 g xs.length cap cur hg st hroom (by omega)
        rw [hr] at hr2
        injection hr2 with e1 e2
        subst e1
        exact .inl rfl
      · have hr2 := Lib.run_append_grow_string (P := Tryz.prog) w 24 9 o.type 5 i0 (.int .u8 0) Tryz.underlying24 Tryz.underlying9 hi hz0 ⟨g, 0, none⟩ xs.length cap (B8 xs) (by rw [hz1]; simpa using hxl) (hown.cells (g := g) rfl) st (by omega) (by omega) (by rw [hz2]; exact growslice_fits (by omega) (by omega))
        rw [hr] at hr2
        injection hr2 with e1 e2
        subst e1
        exact .inr fun k hk => by simp only [Value.ownBlock, Option.some.injEq] at hk; omega
  obtain ⟨v', w', hr, h2, h3, h4⟩ := key
  rw [sb_cells, ← B8_append] at h2
  have h2' : w'.ownsRow base 5 1 v' (xs ++ sb st).length (B8 (xs ++ sb st)) := by rw [List.length_append, sb_len]; exact h2
  unfold Oper.wp execOp
  simp only [ho, resolve, invoke, builtin, Sem.run_bind, Sem.run_pure, Result.andThen_ok, List.map_toArray, List.map_cons, List.map_nil, hs, hx, hr]
  exact hK _ _ (h v' w' h2' h3 h4)

/-- a text, or a blob -/
def textW (most : Int) (bs : List Nat) (s : K.WS) : K.WS := if most < (bs.length : Int) then s.fail 20 else s.lay (K.num bs.length ++ bs)

theorem WAt.open {S : Nat → Prop} {w0 : World} {p : Nat} {s : K.WS} {w : World} (h : WAt S w0 p s w) :
    ∃ v c, Wr w p (.slice v s.laid.length c) s ∧ ∀ k, Wset p (.slice v s.laid.length c) k → S k ∨ w0.heap.size ≤ k := by
  obtain ⟨v, hv, hs⟩ := h.wr
  obtain ⟨a, c, rfl, _⟩ := ownsRow_rd hv.row hv.byt (by have := hv.len; have := hv.top; omega)
  exact ⟨a, c, hv, hs⟩

set_option maxRecDepth 10000 in
set_option maxHeartbeats 400000 in
theorem layRowS (S : Nat → Prop) (w0 : World) (p : Nat) (s : K.WS) (st : ByteArray) (hst : st.size ≤ 140737488351232) (most : Int) (w : World) (h : WAt S w0 p s w) :
    Calls Tryz.prog 156 #[.pointer (some ⟨p, 0, none⟩), .string st, .int .i64 most] w fun en w' => en = .returned (.tuple #[]) ∧ WAt S w0 p (textW most (sb st) s) w' := by
  have HH := hide h
  have HLEN := hide (sb_len st)
  generalize hs' : textW most (sb st) s = s'
  have HS := hide hs'
  clear h hs'
  by_cases hm : most < (st.size : Int)
  · have HS' : Hid (s.fail 20 = s') := by show _ = _; rw [← HS.out]; unfold textW; rw [if_pos (by rw [HLEN.out]; exact hm)]
    go_enter Tryz.func156, Tryz.ntmps156
    go_wp2_with fail
    refine (fail_any S w0 p s 20 (by decide) _ HH.out).mono ?_
    rintro e w1 ⟨rfl, h1⟩
    rw [HS'.out] at h1
    go_wp2
    first | go_end0 | refine bodyPost_ret (results_none rfl _ _ _) rfl ?_
    exact ⟨rfl, h1⟩
  · have HS' : Hid (s.lay (K.num st.size ++ (sb st)) = s') := by show _ = _; rw [← HS.out]; unfold textW; rw [if_neg (by rw [HLEN.out]; exact hm), HLEN.out]
    have HK := hide (K.num_len9 (n := st.size) (by omega))
    go_enter Tryz.func156, Tryz.ntmps156
    go_wp2_with fail
    refine (numberBytes_any st.size (by omega) _).mono ?_
    rintro e w1 ⟨ah, ch, rfl, hrh, h0h, hb1⟩
    have HRH := hide hrh
    have H0H := hide h0h
    have HH1 := hide (HH.out.below hb1)
    have hk9 : (K.num st.size).length ≤ 9 := HK.out
    clear hrh h0h hb1
    generalize hkn : (K.num st.size).length = kn at *
    have HKN := hide hkn
    clear hkn
    go_wp2_with fail
    obtain ⟨tot, htot⟩ : ∃ tot, tot = kn + st.size := ⟨_, rfl⟩
    have hcast : ((kn : Int) + (st.size : Nat)) = ((tot : Nat) : Int) := by omega
    rw [hcast]
    have HTOT := hide htot
    have htb : tot ≤ 140737488351300 := by omega
    clear htot hcast
    by_cases hf : s.laid.length + tot ≤ s.most
    · refine (fits_yes S w0 p s tot (by omega) _ HH1.out hf).mono ?_
      rintro e w2 ⟨rfl, h2, hb2⟩
      have e3 : s.lay (K.num st.size ++ sb st) = { s with laid := s.laid ++ K.num st.size ++ sb st } := by
        unfold K.WS.lay
        rw [if_pos (by rw [List.length_append, HKN.out, HLEN.out, ← HTOT.out]; exact hf), List.append_assoc]
      have HE := hide e3
      have HF := hide hf
      have HRH2 := hide (HRH.out.keep hb2)
      obtain ⟨av, cv, hv, hs⟩ := h2.open
      have HV := hide hv
      have HSS := hide hs
      have HK2 := hide h2.keep
      have c0 := cell0 hv.blk
      have hlen : s.laid.length ≤ s.most := hv.len
      have htop := hv.top
      clear e3 hf h2 hb2 hv hs
      have HNL : Hid (s.laid.length + (K.num st.size).length ≤ s.most) := by show _ ≤ _; have := HKN.out; have := HF.out; have := HTOT.out; omega
      have HP := hide (Array.getElem?_eq_some_iff.1 HV.out.blk).1
      have hsum2 : Hid ((s.laid ++ K.num st.size).length + st.size ≤ 140737488355328) := by show _ ≤ _; rw [List.length_append, HKN.out]; have := HF.out; have := HTOT.out; omega
      go_wp2_with (first
        | (at_builtin; refine wpList_append_rd rfl _ _ rfl (.slice av s.laid.length cv) s.laid 0 rfl HV.out.row ah kn ch (K.num st.size) rfl HRH2.out H0H.out (by omega) (Nat.zero_le _) ?_; intro v' w3 ho hg hnb; obtain ⟨a', c', hv'⟩ := ownsRow_shape ho; obtain ⟨m1, hm1⟩ : ∃ m1, m1 = (s.laid ++ K.num st.size).length := ⟨_, rfl⟩; rw [← hm1] at hv'; have HM1 := hide hm1; clear hm1; subst hv'; have hb3 := (hg.block p HP.out (fun e => HV.out.ne e.symm)).trans HV.out.blk; have d0 := cell0 hb3; have d1 := frozen_of_row w3 p 0 _ _ hb3; have HV3 := hide (HV.out.laid hg hnb ho (K.num_lt st.size) HNL.out); have HA3 := hide (WAt.laid HK2.out HV.out HSS.out hg hnb ho (K.num_lt st.size) HNL.out); clear ho hg hnb hb3)
        | (at_builtin; refine wpList_append_str rfl _ _ rfl (.slice a' m1 c') (s.laid ++ K.num st.size) 0 rfl HV3.out.row st rfl hsum2.out (Nat.zero_le _) ?_; intro v2 w4 ho hg hnb; obtain ⟨a2, c2, hv2⟩ := ownsRow_shape ho; obtain ⟨m2, hm2⟩ : ∃ m2, m2 = (s.laid ++ K.num st.size ++ sb st).length := ⟨_, rfl⟩; rw [← hm2] at hv2; have HM2 := hide hm2; clear hm2; subst hv2; have hp3 := (Array.getElem?_eq_some_iff.1 HV3.out.blk).1; have hb4 := (hg.block p hp3 (fun e => HV3.out.ne e.symm)).trans HV3.out.blk; have f0 := cell0 hb4; have f1 := frozen_of_row w4 p 0 _ _ hb4; have HO4 := hide ho; have HG4 := hide hg; have HN4 := hide hnb; clear ho hg hnb hb4 hp3))
      go_end0
      refine ⟨rfl, ?_⟩
      rw [← HS'.out, HE.out]
      have hss : ∀ k, Wset p (.slice a' m1 c') k → S k ∨ w0.heap.size ≤ k := by
        obtain ⟨v9, hv9, hs9⟩ := HA3.out.wr
        have e1 := cell0 hv9.blk
        have e2 := cell0 HV3.out.blk
        rw [e1] at e2
        injection e2 with e2
        subst e2
        exact hs9
      exact WAt.laid (s := { s with laid := s.laid ++ K.num st.size }) HA3.out.keep HV3.out hss HG4.out HN4.out HO4.out (sb_lt st) (by show (s.laid ++ K.num st.size).length + (sb st).length ≤ s.most; rw [List.length_append, HKN.out, HLEN.out]; have := HF.out; have := HTOT.out; omega)
    · refine (fits_no S w0 p s tot (by omega) _ HH1.out hf).mono ?_
      rintro e w2 ⟨rfl, h2⟩
      have e3 : s.lay (K.num st.size ++ (sb st)) = s.fail 20 := by
        unfold K.WS.lay
        rw [if_neg (by rw [List.length_append, HKN.out, HLEN.out, ← HTOT.out]; exact hf)]
      rw [← e3, HS'.out] at h2
      go_wp2
      go_end0
      exact ⟨rfl, h2⟩

end Go.Proofs.YtbjcckfhfbjchaaGreat

/- Package pack: Texts; the put of Lists. -/
namespace Go.Proofs.YtbjcckfhfbjchaaGreat
open Go.RowKit

theorem putText (S : Nat → Prop) (w0 : World) (p m : Nat) (most : Int) (st : ByteArray) (hst : st.size ≤ 140737488351232) (s : K.WS) (w : World) (h : WAt S w0 p s w) (hm : w.cell? ⟨m, 0, none⟩ = some (.int .i64 most)) :
    Calls Tryz.prog 155 #[.pointer (some ⟨p, 0, none⟩), .string st, .pointer (some ⟨m, 0, none⟩)] w fun en w' => en = .returned (.tuple #[]) ∧ WAt S w0 p (textW most (sb st) s) w' := by
  have HH := hide h
  clear h
  go_enter Tryz.func155, Tryz.ntmps155
  go_wp2_with fail
  refine (layRowS S w0 p s st hst most _ HH.out).mono ?_
  rintro e w1 ⟨rfl, h1⟩
  go_wp2
  go_end0
  exact ⟨rfl, h1⟩

theorem ent_putText (args : Array Value) (w : World) : (callFunc 155 args).run Tryz.prog w = .ok (.enter 155 args) w :=
  callFunc_enter Tryz.func155 (by kernel_rfl) (by kernel_rfl) args w

theorem putsText (D : Nat → Prop) (w : World) (m : Nat) (most : Int) (st : ByteArray) (hst : st.size ≤ 140737488351232) (hm : w.cell? ⟨m, 0, none⟩ = some (.int .i64 most)) (dm : D m) :
    PutsG D w 155 #[.pointer (some ⟨m, 0, none⟩)] (.string st) (textW most (sb st)) :=
  fun p S w1 ha hd w2 s h _ => putText S w1 p m most st hst s w2 h ((ha.keep h.keep hd).cell hm dm)

theorem blocks2 {w w1 : World} {o0 o1 : Obj} (h : Below ((w.alloc o0).alloc o1).heap.size ((w.alloc o0).alloc o1) w1) :
    w1.heap[w.heap.size]? = some o0 ∧ w1.heap[w.heap.size + 1]? = some o1 ∧ Below w.heap.size w w1 := by
  have e1 : (w.alloc o0).heap.size = w.heap.size + 1 := by simp
  have e2 : ((w.alloc o0).alloc o1).heap.size = w.heap.size + 1 + 1 := by simp
  refine ⟨?_, ?_, ?_⟩
  · rw [h.block _ (by omega), Below.heap_alloc _ _ _ (by omega)]; exact heap_alloc_new w o0
  · rw [h.block _ (by omega), ← e1]; exact heap_alloc_new _ o1
  · exact (((Below.refl w.heap.size w).alloc (Nat.le_refl _) o0).alloc (by omega) o1).trans (h.mono (by omega))

theorem Texts_any (most : Int) (w : World) :
    Calls Tryz.prog 113 #[.int .i64 most] w fun en w' => ∃ m, en = .returned (.agg #[.func (.func 155) #[] #[.pointer (some ⟨m, 0, none⟩)], .func (.func 157) #[] #[.pointer (some ⟨m, 0, none⟩)]]) ∧
      w'.cell? ⟨m, 0, none⟩ = some (.int .i64 most) ∧ w.heap.size ≤ m ∧ Below w.heap.size w w' := by
  have hmf : ∀ (fn : Fn) (first cap : Array Value) (w : World), (Instr.makeFunc fn first cap).run Tryz.prog w = .ok (.func fn first cap) w := fun _ _ _ _ => rfl
  go_enter Tryz.func113, Tryz.ntmps113
  go_wp2_with fail
  refine (MakeS _ _ _ _ _).mono ?_
  rintro e w1 ⟨rfl, hb1⟩
  obtain ⟨b0, b1, hb⟩ := blocks2 hb1
  have f0 := cell_of_row _ _ 0 _ _ _ b1
  have f1 := cell_of_row _ _ 1 _ _ _ b1
  have z0 := frozen_of_row w1 _ 0 _ _ b1
  have z1 := frozen_of_row w1 _ 1 _ _ b1
  have d0 := cell_of_row _ _ 0 _ _ _ b0
  have HB := hide hb
  have D0 := hide d0
  clear hb1 hb b0 b1 d0
  go_wp2
  refine ⟨rfl, .agg #[.func (.func 155) #[] #[.pointer (some ⟨w.heap.size, 0, none⟩)], .func (.func 157) #[] #[.pointer (some ⟨w.heap.size, 0, none⟩)]], by simp [results, Tryz.results113, go_sem, f0, f1], _, rfl, ?_, Nat.le_refl _, (HB.out.setCell (by show _ ≤ _; simp) _).setCell (by show _ ≤ _; simp) _⟩
  have := D0.out
  rw [World.cell?_setCell_other, World.cell?_setCell_other, this]
  all_goals simp

/-- one thing of a list -/
def thingW (f : K.WS → K.WS) (s : K.WS) : K.WS := if s.fault = 0 then (if (f s).laid.length = s.laid.length then (f s).fail 22 else f s) else s
def allW (fs : List (K.WS → K.WS)) (s : K.WS) : K.WS := fs.foldl (fun s f => thingW f s) s
def listW (most : Int) (fs : List (K.WS → K.WS)) (s : K.WS) : K.WS := if most < (fs.length : Int) then s.fail 20 else allW fs (s.lay (K.num fs.length))

theorem allW_fault (fs : List (K.WS → K.WS)) : ∀ s : K.WS, s.fault ≠ 0 → allW fs s = s := by
  induction fs with
  | nil => intro s _; rfl
  | cons f fs ih =>
    intro s hs
    show allW fs (thingW f s) = s
    have : thingW f s = s := by unfold thingW; rw [if_neg hs]
    rw [this]
    exact ih s hs
theorem allW_append (a b : List (K.WS → K.WS)) (s : K.WS) : allW (a ++ b) s = allW b (allW a s) := List.foldl_append
theorem allW_stop (fs : List (K.WS → K.WS)) (k : Nat) (s : K.WS) (h : (allW (fs.take k) s).fault ≠ 0) : allW fs s = allW (fs.take k) s := by
  conv => lhs; rw [← List.take_append_drop k fs, allW_append]
  exact allW_fault _ _ h
theorem allW_succ (fs : List (K.WS → K.WS)) (k : Nat) (f : K.WS → K.WS) (hf : fs[k]? = some f) (s : K.WS) : allW (fs.take (k + 1)) s = thingW f (allW (fs.take k) s) := by
  have hk : k < fs.length := (List.getElem?_eq_some_iff.1 hf).1
  rw [List.take_succ_eq_append_getElem hk, allW_append]
  have : fs[k] = f := (List.getElem?_eq_some_iff.1 hf).2
  rw [this]
  rfl

/-- the cells of a slice whose elements have one each -/
def Els (D : Nat → Prop) (w : World) (a : Option Addr) (n : Nat) (vs : List Value) : Prop :=
  n = vs.length ∧ n ≤ 140737488351232 ∧ (n = 0 ∨ ∃ b off, a = some ⟨b, off, none⟩ ∧ D b ∧ ∀ i v, vs[i]? = some v → w.cell? ⟨b, off + i, none⟩ = some v)

theorem WAt.rebase {S : Nat → Prop} {w0 : World} {p : Nat} {s : K.WS} {w : World} (h : WAt S w0 p s w) :
    ∃ v, Wr w p v s ∧ WAt (Wset p v) w p s w ∧ ∀ k, Wset p v k → S k ∨ w0.heap.size ≤ k := by
  obtain ⟨v, hv, hs⟩ := h.wr
  exact ⟨v, hv, ⟨Keep.refl _ _, v, hv, fun k hk => .inl hk⟩, hs⟩
theorem WAt.step {S : Nat → Prop} {w0 : World} {p : Nat} {s s' : K.WS} {v : Value} {w w' : World} (h : WAt S w0 p s w) (hs : ∀ k, Wset p v k → S k ∨ w0.heap.size ≤ k) (h' : WAt (Wset p v) w p s' w') : WAt S w0 p s' w' := by
  obtain ⟨v', hv', hs'⟩ := h'.wr
  refine ⟨h.keep.trans h'.keep hs, v', hv', fun k hk => ?_⟩
  rcases hs' k hk with h1 | h1
  · exact hs k h1
  · exact .inr (Nat.le_trans h.keep.size h1)

/-- a block of another type is none of the writer's -/
theorem Wr.not {w : World} {p : Nat} {v : Value} {s : K.WS} (h : Wr w p v s) {b : Nat} {cs : Array Value} {t : TypeId} (hb : w.heap[b]? = some (.cells cs t (0, 0))) (h1 : t ≠ 128) (h2 : t ≠ 5) : ¬ Wset p v b := by
  rintro (rfl | e)
  · have := h.blk
    rw [this] at hb
    simp only [Option.some.injEq, Obj.cells.injEq] at hb
    exact h1 hb.2.1.symm
  · rcases h.row.2 with ⟨rfl, _⟩ | ⟨g, cap, cur, rfl, _, hg, _⟩
    · cases e
    · simp only [Value.ownBlock, Option.some.injEq] at e
      subst e
      rw [hg] at hb
      simp only [Option.some.injEq, Obj.cells.injEq] at hb
      exact h2 hb.2.1.symm

theorem disjoint_step {D S : Nat → Prop} {wf w0 : World} {p : Nat} {v : Value} (ha : Agree D wf w0) (hd : ∀ k, D k → ¬ S k) (hs : ∀ k, Wset p v k → S k ∨ w0.heap.size ≤ k) : ∀ k, D k → ¬ Wset p v k := by
  intro k hk hw
  rcases hs k hw with h | h
  · exact hd k hk h
  · have := ha.lt hk; omega

set_option maxRecDepth 10000 in
set_option maxHeartbeats 1000000 in
theorem putAllI (D S : Nat → Prop) (wf w0 : World) (p : Nat) (fn1 fn2 : FuncId) (cap1 cap2 : Array Value) (a : Option Addr) (n c : Nat) (vs : List Value) (fs : List (K.WS → K.WS)) (s : K.WS) (w : World)
    (ha : Agree D wf w0) (hd : ∀ k, D k → ¬ S k) (h : WAt S w0 p s w) (he : Els D wf a n vs) (hl : fs.length = n) (hp : ∀ (i : Nat) v f, vs[i]? = some v → fs[i]? = some f → PutsG D wf fn1 cap1 v f)
    (hc : ∀ args w, (callFunc fn1 args).run Tryz.prog w = .ok (.enter fn1 args) w) :
    Calls Tryz.prog 163 #[.pointer (some ⟨p, 0, none⟩), .agg #[.func (.func fn1) #[] cap1, .func (.func fn2) #[] cap2], .slice a n c] w fun en w' => en = .returned (.tuple #[]) ∧ WAt S w0 p (allW fs s) w' := by
  have HA := hide ha
  have HD := hide hd
  have HE := hide he
  have HL := hide hl
  have HP := hide hp
  have HC := hide hc
  have hn := he.2.1
  have hba := (Below.refl w.heap.size w).alloc (Nat.le_refl _) (.cells #[.func (.func fn1) #[] cap1, .func (.func fn2) #[] cap2] 90)
  have HH := hide (h.below hba)
  have HX := hide (heap_alloc_new w (.cells #[.func (.func fn1) #[] cap1, .func (.func fn2) #[] cap2] 90))
  clear ha hd he hl hp hc h hba
  go_enter Tryz.func163, Tryz.ntmps163
  go_wp2
  generalize w.alloc (.cells #[.func (.func fn1) #[] cap1, .func (.func fn2) #[] cap2] 90) = wa at *
  generalize w.heap.size = bx at *
  go_loopw [11] (fun i wx => ∃ k : Nat, k ≤ n ∧ i = .int .i64 (k : Nat) ∧ WAt S w0 p (allW (fs.take k) s) wx ∧ wx.heap[bx]? = some (.cells #[.func (.func fn1) #[] cap1, .func (.func fn2) #[] cap2] 90 (0, 0))) (fun i _ => n - (intOf i).toNat)
  case atStart => exact ⟨0, Nat.zero_le _, rfl, HH.out, HX.out⟩
  case round =>
    obtain ⟨k, hk, rfl, hw, hbx⟩ := hrel
    have HW := hide hw
    have HBX := hide hbx
    clear hw hbx
    by_cases hlt : k < n
    · obtain ⟨f, hf⟩ : ∃ f, fs[k]? = some f := ⟨_, List.getElem?_eq_getElem (by have := HL.out; omega)⟩
      obtain ⟨x, hx⟩ : ∃ x, vs[k]? = some x := ⟨_, List.getElem?_eq_getElem (by have := HE.out.1; omega)⟩
      have HAG := hide (HA.out.keep HW.out.keep HD.out)
      obtain ⟨b, off, rfl, hcell⟩ : ∃ b off, a = some ⟨b, off, none⟩ ∧ wr.cell? ⟨b, off + k, none⟩ = some x := by
        rcases HE.out.2.2 with h0 | ⟨b, off, rfl, db, hr⟩
        · omega
        · exact ⟨b, off, rfl, HAG.out.cell (hr k x hx) db⟩
      have HPF := hide (HP.out k x f hx hf)
      have HSC := hide (allW_succ fs k f hf s)
      have HST := hide (allW_stop fs k s)
      obtain ⟨v, hv, hw2, hs⟩ := HW.out.rebase
      obtain ⟨av, cv, rfl, _⟩ := ownsRow_rd hv.row hv.byt (by have := hv.len; have := hv.top; omega)
      have c0 := cell0 hv.blk
      have c2 := cell2 hv.blk
      have e0 : wr.cell? ⟨bx, 0, none⟩ = some (.func (.func fn1) #[] cap1) := by rw [cell_of_row _ _ _ _ _ _ HBX.out]; rfl
      have e1 : wr.cell? ⟨bx, 1, none⟩ = some (.func (.func fn2) #[] cap2) := by rw [cell_of_row _ _ _ _ _ _ HBX.out]; rfl
      have HV := hide hv
      have HW2 := hide hw2
      have HS := hide hs
      clear hf hx hv hw2 hs
      generalize hsk : allW (fs.take k) s = sk at *
      clear hsk
      by_cases hz : sk.fault = 0
      · have HZ := hide hz
        have c2' : wr.cell? ⟨p, 2, none⟩ = some (.int .i64 0) := by rw [c2, hz]; rfl
        clear c2 hz
        have HTW : Hid (thingW f sk = if (f sk).laid.length = sk.laid.length then (f sk).fail 22 else f sk) := by show _ = _; unfold thingW; rw [if_pos HZ.out]
        go_wp2_with fail
        refine (PutI (Wset p (.slice av sk.laid.length cv)) wr p fn1 fn2 cap1 cap2 x f sk _ HW2.out (HPF.out p _ wr HAG.out (disjoint_step HA.out HD.out HS.out)) HC.out).mono ?_
        rintro e w2 ⟨rfl, h2⟩
        rw [putW_zero HZ.out] at h2
        have HBX2 := hide (h2.keep.blk HBX.out (HV.out.not HBX.out (by decide) (by decide)))
        have H3 := hide (HW.out.step HS.out h2)
        obtain ⟨v2, hv2, hw3, hs3⟩ := H3.out.rebase
        obtain ⟨a2, cc2, rfl, _⟩ := ownsRow_rd hv2.row hv2.byt (by have := hv2.len; have := hv2.top; omega)
        have d0 := cell0 hv2.blk
        have HV2 := hide hv2
        have HW3 := hide hw3
        have HS3 := hide hs3
        have hl2 : (f sk).laid.length ≤ 16777216 := Nat.le_trans hv2.len hv2.top
        have hl1 : sk.laid.length ≤ 16777216 := Nat.le_trans HV.out.len HV.out.top
        clear h2 hv2 hw3 hs3
        by_cases hq : (f sk).laid.length = sk.laid.length
        · have hqq : (((f sk).laid.length : Int) == (sk.laid.length : Int)) = true := by rw [hq]; exact beq_self_eq_true _
          have HQ := hide hq
          clear hq
          go_wp2_with fail
          refine (Fail_any (Wset p (.slice a2 (f sk).laid.length cc2)) w2 p (f sk) _ HW3.out).mono ?_
          rintro e w3 ⟨rfl, h4⟩
          have HBX3 := hide (h4.keep.blk HBX2.out (HV2.out.not HBX2.out (by decide) (by decide)))
          have H4 := hide (H3.out.step HS3.out h4)
          clear h4
          go_wp2
          refine ⟨⟨k + 1, by omega, by go_num, ?_, HBX3.out⟩, by simp [intOf]; omega⟩
          rw [HSC.out, HTW.out, if_pos HQ.out]
          exact H4.out
        · have hqq : (((f sk).laid.length : Int) == (sk.laid.length : Int)) = false := by rw [beq_eq_false_iff_ne]; omega
          have HQ := hide hq
          clear hq
          go_wp2
          refine ⟨⟨k + 1, by omega, by go_num, ?_, HBX2.out⟩, by simp [intOf]; omega⟩
          rw [HSC.out, HTW.out, if_neg HQ.out]
          exact H3.out
      · have hzz : (((sk.fault : Nat) : Int) == 0) = false := by simpa using hz
        have HZ := hide hz
        clear hz
        go_wp2
        first | go_end0 | refine bodyPost_ret (results_none rfl _ _ _) rfl ?_
        refine ⟨rfl, ?_⟩
        rw [HST.out HZ.out]
        exact HW.out
    · go_wp2
      go_end0
      refine ⟨rfl, ?_⟩
      have := HW.out
      rw [List.take_of_length_le (by have := HL.out; omega)] at this
      exact this

theorem putListI (D S : Nat → Prop) (wf w0 : World) (p m o : Nat) (most : Int) (fn1 fn2 : FuncId) (cap1 cap2 : Array Value) (a : Option Addr) (n c : Nat) (vs : List Value) (fs : List (K.WS → K.WS)) (s : K.WS) (w : World)
    (ha : Agree D wf w0) (hd : ∀ k, D k → ¬ S k) (h : WAt S w0 p s w) (he : Els D wf a n vs) (hl : fs.length = n) (hp : ∀ (i : Nat) v f, vs[i]? = some v → fs[i]? = some f → PutsG D wf fn1 cap1 v f)
    (hc : ∀ args w, (callFunc fn1 args).run Tryz.prog w = .ok (.enter fn1 args) w) (dm : D m) (dO : D o) (hm : wf.cell? ⟨m, 0, none⟩ = some (.int .i64 most)) (ho : wf.heap[o]? = some (.cells #[.func (.func fn1) #[] cap1, .func (.func fn2) #[] cap2] 90 (0, 0))) :
    Calls Tryz.prog 162 #[.pointer (some ⟨p, 0, none⟩), .slice a n c, .pointer (some ⟨m, 0, none⟩), .pointer (some ⟨o, 0, none⟩)] w fun en w' => en = .returned (.tuple #[]) ∧ WAt S w0 p (listW most fs s) w' := by
  have hag := ha.keep h.keep hd
  have hm' := hag.cell hm dm
  have HO := hide ho
  have HA := hide ha
  have HD := hide hd
  have HE := hide he
  have HL := hide hl
  have HP := hide hp
  have HC := hide hc
  have HH := hide h
  have HDO := hide dO
  have hn := he.2.1
  clear ha hd he hl hp hc h hm ho hag dm dO
  generalize hs' : listW most fs s = s'
  have HS := hide hs'
  clear hs'
  by_cases hb : most < (n : Int)
  · have HS' : Hid (s.fail 20 = s') := by show _ = _; rw [← HS.out]; unfold listW; rw [if_pos (by rw [HL.out]; exact hb)]
    go_enter Tryz.func162, Tryz.ntmps162
    go_wp2_with fail
    refine (fail_any S w0 p s 20 (by decide) _ HH.out).mono ?_
    rintro e w1 ⟨rfl, h1⟩
    rw [HS'.out] at h1
    go_wp2
    first | go_end0 | refine bodyPost_ret (results_none rfl _ _ _) rfl ?_
    exact ⟨rfl, h1⟩
  · have HS' : Hid (allW fs (s.lay (K.num n)) = s') := by show _ = _; rw [← HS.out]; unfold listW; rw [if_neg (by rw [HL.out]; exact hb), HL.out]
    go_enter Tryz.func162, Tryz.ntmps162
    go_wp2_with fail
    refine (numberBytes_any n (by omega) _).mono ?_
    rintro e w1 ⟨ah, ch, rfl, hrh, h0h, hb1⟩
    have HRH := hide hrh
    have H0H := hide h0h
    have HH1 := hide (HH.out.below hb1)
    clear hrh h0h hb1
    go_wp2_with fail
    refine (lay_any S w0 p s ah _ ch _ _ HH1.out HRH.out H0H.out).mono ?_
    rintro e w2 ⟨rfl, h2⟩
    have hbo := (HA.out.keep h2.keep HD.out o HDO.out).2.trans HO.out
    have e0 : w2.cell? ⟨o, 0, none⟩ = some (.func (.func fn1) #[] cap1) := by rw [cell_of_row _ _ _ _ _ _ hbo]; rfl
    have e1 : w2.cell? ⟨o, 1, none⟩ = some (.func (.func fn2) #[] cap2) := by rw [cell_of_row _ _ _ _ _ _ hbo]; rfl
    have H2 := hide h2
    clear h2 hbo
    go_wp2_with fail
    refine (putAllI D S wf w0 p fn1 fn2 cap1 cap2 a n c vs fs _ _ HA.out HD.out H2.out HE.out HL.out HP.out HC.out).mono ?_
    rintro e w3 ⟨rfl, h3⟩
    rw [HS'.out] at h3
    go_wp2
    go_end0
    exact ⟨rfl, h3⟩

theorem ent_putListI (args : Array Value) (w : World) : (callFunc 162 args).run Tryz.prog w = .ok (.enter 162 args) w :=
  callFunc_enter Tryz.func162 (by kernel_rfl) (by kernel_rfl) args w

theorem putsListI (D : Nat → Prop) (wf : World) (m o : Nat) (most : Int) (fn1 fn2 : FuncId) (cap1 cap2 : Array Value) (a : Option Addr) (n c : Nat) (vs : List Value) (fs : List (K.WS → K.WS))
    (he : Els D wf a n vs) (hl : fs.length = n) (hp : ∀ (i : Nat) v f, vs[i]? = some v → fs[i]? = some f → PutsG D wf fn1 cap1 v f)
    (hc : ∀ args w, (callFunc fn1 args).run Tryz.prog w = .ok (.enter fn1 args) w) (dm : D m) (dO : D o) (hm : wf.cell? ⟨m, 0, none⟩ = some (.int .i64 most)) (ho : wf.heap[o]? = some (.cells #[.func (.func fn1) #[] cap1, .func (.func fn2) #[] cap2] 90 (0, 0))) :
    PutsG D wf 162 #[.pointer (some ⟨m, 0, none⟩), .pointer (some ⟨o, 0, none⟩)] (.slice a n c) (listW most fs) :=
  fun p S w1 ha hd w2 s h _ => putListI D S wf w1 p m o most fn1 fn2 cap1 cap2 a n c vs fs s w2 ha hd h he hl hp hc dm dO hm ho

end Go.Proofs.YtbjcckfhfbjchaaGreat
