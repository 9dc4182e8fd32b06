import Derived.Test.YtfoahfgehmghcaaGreatDoorUGrw
import Derived.Test.YtfoahfgehmghcaaGreatDoorUAdd
import Derived.Test.YtfoahfgehmghcaaGreatDoorUMe2
/- Package source: a line that says something: by its first word. -/
namespace Go.Proofs.YtfoahfgehmghcaaGreatDoor
namespace U
open Go.RowKit

theorem doers1_any (B D L pl : Nat) (d : Dr) (ws : List (List UInt8)) (w : World) (hD : DrAt B w D d) (hL : LineAt w L pl (ws, false)) (hnd : d.nds.length < 1000000) (hms : d.ms.length < 1000000) (hwl : ws.length ≤ 1000000) :
    Calls Tryz.prog 85 #[.pointer (some ⟨D, 0, none⟩), .pointer (some ⟨L, 0, none⟩)] w (DoEnd B D L pl (addMen 0 d pl ws) w) := by
  have H := hide (addMen0_any B D L pl d ws w hD hL hnd hms hwl)
  generalize addMen 0 d pl ws = R at *
  clear hD hL
  go_enter Tryz.func85, Tryz.ntmps85
  go_wp2_with fail
  go_at_call 86
  refine H.out.mono ?_
  rintro e w1 ⟨rfl, h1, h2, h3⟩
  have H1 := hide h1
  have H2 := hide h2
  have H3 := hide h3
  clear h1 h2 h3
  go_wp2_with fail
  go_ret
  exact ⟨rfl, H1.out, H2.out, H3.out⟩
theorem doers2_any (B D L pl : Nat) (d : Dr) (ws : List (List UInt8)) (w : World) (hD : DrAt B w D d) (hL : LineAt w L pl (ws, false)) (hnd : d.nds.length < 1000000) (hms : d.ms.length < 1000000) (hwl : ws.length ≤ 1000000) :
    Calls Tryz.prog 87 #[.pointer (some ⟨D, 0, none⟩), .pointer (some ⟨L, 0, none⟩)] w (DoEnd B D L pl (addMen 1 d pl ws) w) := by
  have H := hide (addMen1_any B D L pl d ws w hD hL hnd hms hwl)
  generalize addMen 1 d pl ws = R at *
  clear hD hL
  go_enter Tryz.func87, Tryz.ntmps87
  go_wp2_with fail
  go_at_call 86
  refine H.out.mono ?_
  rintro e w1 ⟨rfl, h1, h2, h3⟩
  have H1 := hide h1
  have H2 := hide h2
  have H3 := hide h3
  clear h1 h2 h3
  go_wp2_with fail
  go_ret
  exact ⟨rfl, H1.out, H2.out, H3.out⟩
theorem enter_1 : ∀ args w, (callFunc 83 args).run Tryz.prog w = .ok (.enter 83 args) w := by intro args w; simp [go_sem]
theorem enter_2 : ∀ args w, (callFunc 84 args).run Tryz.prog w = .ok (.enter 84 args) w := by intro args w; simp [go_sem]
theorem enter_3 : ∀ args w, (callFunc 85 args).run Tryz.prog w = .ok (.enter 85 args) w := by intro args w; simp [go_sem]
theorem enter_4 : ∀ args w, (callFunc 87 args).run Tryz.prog w = .ok (.enter 87 args) w := by intro args w; simp [go_sem]
theorem doers_at (f : List UInt8) : doers (ba f) = if f = kwAfter then some (.func (.func 87) #[] #[]) else if f = kwNeeds then some (.func (.func 85) #[] #[]) else if f = kwNode then some (.func (.func 84) #[] #[]) else if f = kwPlan then some (.func (.func 83) #[] #[]) else none := by
  unfold doers Gr.updS
  simp only [ba_eq]
/-- what the map has for a word, and what that does -/
theorem doLine_call (B D L pl : Nat) (d : Dr) (f : List UInt8) (ws : List (List UInt8)) (w : World) (hD : DrAt B w D d) (hL : LineAt w L pl (ws, false)) (hz : ∀ x ∈ ws, x.length ≤ 65536) (hBL : B ≤ L) (hnd : d.nds.length < 1000000) (hpd : d.places.length < 1000000) (hms : d.ms.length < 1000000) (hwl : ws.length ≤ 1000000) :
    (doers (ba f) = none ∧ doLine d pl f ws = none) ∨ ∃ F : FuncId, doers (ba f) = some (.func (.func F) #[] #[]) ∧ (∀ args w, (callFunc F args).run Tryz.prog w = .ok (.enter F args) w) ∧
      Calls Tryz.prog F #[.pointer (some ⟨D, 0, none⟩), .pointer (some ⟨L, 0, none⟩)] w (DoEnd B D L pl (doLine d pl f ws) w) := by
  rw [doers_at]
  unfold doLine
  by_cases h1 : f = kwPlan
  · subst h1
    exact .inr ⟨_, by rw [if_neg (by decide), if_neg (by decide), if_neg (by decide), if_pos rfl], enter_1, by rw [if_pos rfl]; exact begin_any B D L pl d ws w hD hL hz hBL⟩
  · by_cases h2 : f = kwNode
    · subst h2
      exact .inr ⟨_, by rw [if_neg (by decide), if_neg (by decide), if_pos rfl], enter_2, by rw [if_neg h1, if_pos rfl]; exact addNode_any B D L pl d ws w hD hL hz hBL hnd hpd⟩
    · by_cases h3 : f = kwNeeds
      · subst h3
        exact .inr ⟨_, by rw [if_neg (by decide), if_pos rfl], enter_3, by rw [if_neg h1, if_neg h2, if_pos rfl]; exact doers1_any B D L pl d ws w hD hL hnd hms hwl⟩
      · by_cases h4 : f = kwAfter
        · subst h4
          exact .inr ⟨_, by rw [if_pos rfl], enter_4, by rw [if_neg h1, if_neg h2, if_neg h3, if_pos rfl]; exact doers2_any B D L pl d ws w hD hL hnd hms hwl⟩
        · exact .inl ⟨by rw [if_neg h4, if_neg h3, if_neg h2, if_neg h1], by rw [if_neg h1, if_neg h2, if_neg h3, if_neg h4]⟩
/-- a line makes a draft longer by one thing at most -/
theorem doLine_len {d d' : Dr} {pl : Nat} {f : List UInt8} {ws : List (List UInt8)} (h : doLine d pl f ws = some d') : d'.nds.length ≤ d.nds.length + 1 ∧ d'.places.length ≤ d.places.length + 1 ∧ d'.ms.length ≤ d.ms.length + 1 := by
  unfold doLine begin_ addNode addMen at h
  simp only at h
  repeat' split at h
  all_goals first
    | (cases h; done)
    | (injection h with h; subst h; simp)
end U
end Go.Proofs.YtfoahfgehmghcaaGreatDoor

/- Package source: all lines of a text. -/
namespace Go.Proofs.YtfoahfgehmghcaaGreatDoor
namespace U
open Go.RowKit

/-- a fault in memory -/
def ErrAt (w : World) (v : Value) (p c : Nat) : Prop := ∃ E, v = .iface 53 (.pointer (some ⟨E, 0, none⟩)) ∧ w.heap[E]? = some (.cells #[.int .i64 (p : Int), .int .i64 (c : Int)] 57 (0, 0))
/-- what readLines leaves -/
def RdEnd (B D : Nat) (r : Nat ⊕ Dr) (w : World) (e : Ending) (w' : World) : Prop :=
  Fr B w w' ∧ ((∃ p v, r = .inl p ∧ e = .returned v ∧ ErrAt w' v p 111) ∨ ∃ d, r = .inr d ∧ ((d.place = 0 ∧ ∃ v, e = .returned v ∧ ErrAt w' v 0 111) ∨ (d.place ≠ 0 ∧ e = .returned .nilIface ∧ DrAt B w' D d)))
theorem err_new (w : World) (p c : Nat) : ErrAt (w.alloc (.cells #[.int .i64 (p : Int), .int .i64 (c : Int)] 57)) (.iface 53 (.pointer (some ⟨w.heap.size, 0, none⟩))) p c :=
  ⟨w.heap.size, rfl, heap_alloc_new _ _⟩
theorem zero_func : ∀ w, (zeroValue 126).run Tryz.prog w = .ok .nilFunc w := by intro w; simp [go_sem]

theorem func_nil1 (w : World) (d : Nat) (t : TypeId) (ps rs : Array TypeId) (b : Bool) (ht : Tryz.prog.underlying t = some (.func ps rs b)) (f : Fn) (xs ys : Array Value) : (Op.equalIn (d + 1) t (.func f xs ys) .nilFunc).run Tryz.prog w = .ok false w := by
  simp [Op.equalIn, run_underlying ht]
/-- a function that is there is not nil -/
theorem func_nil (w : World) (t : TypeId) (ps rs : Array TypeId) (b : Bool) (ht : Tryz.prog.underlying t = some (.func ps rs b)) (f : Fn) (xs ys : Array Value) : (binOp .eql t (.func f xs ys) .nilFunc).run Tryz.prog w = .ok (.bool false) w := by
  simp only [binOp]
  simp [Op.equal, Op.maxDepth, func_nil1 w 9999 t ps rs b ht f xs ys]
theorem nil_nil1 (w : World) (d : Nat) (t : TypeId) (ps rs : Array TypeId) (b : Bool) (ht : Tryz.prog.underlying t = some (.func ps rs b)) : (Op.equalIn (d + 1) t .nilFunc .nilFunc).run Tryz.prog w = .ok true w := by
  simp [Op.equalIn, run_underlying ht]
theorem nil_nil (w : World) (t : TypeId) (ps rs : Array TypeId) (b : Bool) (ht : Tryz.prog.underlying t = some (.func ps rs b)) : (binOp .eql t .nilFunc .nilFunc).run Tryz.prog w = .ok (.bool true) w := by
  simp only [binOp]
  simp [Op.equal, Op.maxDepth, nil_nil1 w 9999 t ps rs b ht]

set_option maxRecDepth 100000 in
set_option maxHeartbeats 4000000 in
theorem readLines_any (B D : Nat) (s : ByteArray) (hs : s.size ≤ 65536) (w : World) (hD : DrAt B w D Dr.new) (hB : B ≤ w.heap.size) :
    Calls Tryz.prog 38 #[.pointer (some ⟨D, 0, none⟩), .string s] w (RdEnd B D (readL 1 (splitOn 10 s.data.toList) Dr.new) w) := by
  generalize hR : readL 1 (splitOn 10 s.data.toList) Dr.new = R
  have HR := hide hR
  have HD := hide hD
  have HS := hide (fun w => split_any s hs 10 w)
  clear hR hD
  go_enter Tryz.func38, Tryz.ntmps38
  go_wp2_with fail
  go_at_call 64
  refine (doers_any _).mono ?_
  rintro e w1 ⟨b, rfl, mv1, hb1, hbb⟩
  have MV1 := hide mv1
  have D1 := hide (HD.out.below hb1)
  have F1 := hide (Fr.ofBelow (B := B) hb1)
  clear mv1 hb1 HD
  go_wp2_with fail
  go_at_call 65
  refine (HS.out _).mono ?_
  rintro e w2 ⟨xs, hxs, hxz, hxl, rfl, rfl⟩
  have hb2 : Below w1.heap.size w1 (w1.alloc (.cells (xs.map Value.string).toArray 9)) := (Below.refl _ w1).alloc (Nat.le_refl _) _
  have HG := hide (heap_alloc_new w1 (.cells (xs.map Value.string).toArray 9))
  have D2 := hide (D1.out.below hb2)
  have F2 := hide (F1.out.trans (Fr.ofBelow (B := B) hb2))
  have MV2 := hide (MV1.out.fr (Fr.ofBelow (B := B) hb2))
  have HXS := hide hxs
  have HXZ := hide hxz
  clear hb2 D1 F1 MV1 HS hxs hxz
  generalize w1.alloc (.cells (xs.map Value.string).toArray 9) = w2 at *
  generalize w1.heap.size = g at *
  generalize hn : xs.length = n at *
  have HN := hide hn
  clear hn
  go_wp2_with fail
  go_loopw [15] (fun iv wr => ∃ (i : Nat) (di : Dr), iv = .int .i64 (i : Nat) ∧ i ≤ n ∧ Hid (DrAt B wr D di ∧ readL (i + 1) ((splitOn 10 s.data.toList).drop i) di = R ∧ MapV wr b 4 doers ∧ wr.heap[g]? = some (.cells (xs.map Value.string).toArray 9 (0, 0)) ∧ Fr B w wr ∧ di.nds.length ≤ i ∧ di.places.length ≤ i ∧ di.ms.length ≤ i)) (fun iv _ => n - (intOf iv).toNat)
  case atStart => exact ⟨0, Dr.new, rfl, Nat.zero_le _, D2.out, HR.out, MV2.out, HG.out, F2.out, Nat.le_refl _, Nat.le_refl _, Nat.le_refl _⟩
  case round =>
    clear D2 MV2 HG F2
    obtain ⟨i, di, rfl, hi, HI⟩ := hrel
    by_cases hlt : i < n
    · obtain ⟨x, hx⟩ : ∃ x, xs[i]? = some x := ⟨_, List.getElem?_eq_getElem (by have := HN.out; omega)⟩
      have ci : wr.cell? ⟨g, i, none⟩ = some (.string x) := cell_blk HI.out.2.2.2.1 i (by simp [hx])
      have hdrop : (splitOn 10 s.data.toList).drop i = x.data.toList :: (splitOn 10 s.data.toList).drop (i + 1) := by
        rw [← HXS.out]
        have hl : i < (xs.map (·.data.toList)).length := by have := HN.out; simp; omega
        rw [List.drop_eq_getElem_cons hl]
        congr 1
        simp only [List.getElem_map]
        rw [List.getElem?_eq_getElem (by have := HN.out; omega)] at hx
        injection hx with hx
        rw [hx]
      have HST : Hid (R = match step di (i + 1) (wordsOf x.data.toList) with | none => .inl (i + 1) | some d' => readL (i + 1 + 1) ((splitOn 10 s.data.toList).drop (i + 1)) d') := by
        show _ = _
        rw [← HI.out.2.1, hdrop]
        rfl
      have hxz := HXZ.out x (List.mem_of_getElem? hx)
      have LO := hide (lineOf_any x hxz (i + 1) wr)
      rw [show ((i + 1 : Nat) : Int) = (i : Int) + 1 by omega] at LO
      have hwl : (wordsOf x.data.toList).length ≤ 1000000 := by have := wordsOf_len x.data.toList; have e : x.data.toList.length = x.size := (by simp); omega
      have HWZ : Hid (∀ y ∈ wordsOf x.data.toList, y.length ≤ 65536) := fun y hy => by have := wordsOf_le x.data.toList y hy; have e : x.data.toList.length = x.size := (by simp); omega
      have HNE := hide (wordsOf_ne x.data.toList)
      generalize wordsOf x.data.toList = ws at *
      clear hdrop hx
      go_wp2_with fail
      go_at_call 66
      refine LO.out.mono ?_
      rintro e w3 ⟨L, rfl, hLs, hL3, hb3⟩
      have L3 := hide hL3
      have D3 := hide (HI.out.1.below hb3)
      have F3 := hide (HI.out.2.2.2.2.1.trans (Fr.ofBelow (B := B) hb3))
      have MV3 := hide (HI.out.2.2.1.fr (Fr.ofBelow (B := B) hb3))
      have G3 := hide ((Fr.ofBelow (B := B) hb3).strB HI.out.2.2.2.1)
      have NL := hide HI.out.2.2.2.2.2
      have hBL : B ≤ L := by have := HI.out.2.2.2.2.1.size; omega
      clear hL3 hb3 LO ci HI
      go_wp2_with fail
      go_at_call 67
      refine (take_any L (i + 1) (ws, false) w3 L3.out).mono ?_
      rintro e w4 ⟨rfl, hL4, k4⟩
      have f4 := Fr.line L3.out hBL k4
      have L4 := hide hL4
      have D4 := hide (D3.out.lineAt L3.out k4)
      have F4 := hide (F3.out.trans f4)
      have MV4 := hide (MV3.out.fr f4)
      have G4 := hide (f4.strB G3.out)
      clear hL4 k4 f4 L3 D3 F3 MV3 G3
      have he := ba_empty (hd ws)
      cases ws with
      | nil =>
        rw [show (hd ([] : List (List UInt8))).isEmpty = true from rfl] at he
        generalize ba (hd ([] : List (List UInt8))) = y at *
        have hst := HST.out
        rw [step] at hst
        have HST2 := hide hst
        clear hst HST
        go_wp2_with fail
        go_roundw
        · exact ⟨i + 1, di, by go_num, by omega, D4.out, HST2.out.symm, MV4.out, G4.out, F4.out, by have := NL.out; omega, by have := NL.out; omega, by have := NL.out; omega⟩
        · show n - ((i : Int) + 1).toNat < n - (i : Int).toNat
          omega
      | cons f r =>
        have hne : f ≠ [] := HNE.out f (by simp)
        clear he
        have he : (ba f).toList.isEmpty = false := by rw [ba_empty]; simp [hne]
        have hfl : f.length ≤ 65536 := HWZ.out f (by simp)
        have lk := MV4.out.look (t := 121) Tryz.underlying121 zero_func (k := ba f) (by rw [ba_size]; unfold maxLen; omega)
        have hst := HST.out
        rw [step] at hst
        have HST2 := hide hst
        have DL := hide (doLine_call B D L (i + 1) di f r w4 D4.out L4.out (fun y hy => HWZ.out y (by simp [hy])) hBL (by have := NL.out; omega) (by have := NL.out; omega) (by have := NL.out; omega) (by simp at hwl; omega))
        have HLN := hide (fun d' h => doLine_len (d := di) (d' := d') (pl := i + 1) (f := f) (ws := r) h)
        generalize doLine di (i + 1) f r = R2 at *
        have hhd : hd (f :: r) = f := rfl
        rw [hhd]
        have l0 := L4.out.place
        clear hst HST hhd
        rcases DL.out with ⟨e1, e2⟩ | ⟨F, e1, hF, C⟩
        · rw [e1] at lk
          simp only [Option.getD_none] at lk
          subst e2
          have hq := fun w => nil_nil w 126 _ _ _ Tryz.underlying126
          go_wp2_with fail
          go_ret
          have hb := (Below.refl w4.heap.size w4).alloc (Nat.le_refl _) (.cells #[.int .i64 ((i + 1 : Nat) : Int), .int .i64 111] 57)
          exact ⟨F4.out.trans (Fr.ofBelow hb), .inl ⟨i + 1, _, HST2.out, rfl, err_new w4 (i + 1) 111⟩⟩
        · rw [e1] at lk
          simp only [Option.getD_some] at lk
          have HC := hide C
          clear C DL e1
          have hq := fun w => func_nil w 126 _ _ _ Tryz.underlying126 (.func F) #[] #[]
          go_wp2_with fail
          refine HC.out.mono ?_
          rintro e w5 ⟨rfl, hd5, f5, hp5⟩
          have HD5 := hide hd5
          have MV5 := hide (MV4.out.fr f5)
          have G5 := hide (f5.strB G4.out)
          have F5 := hide (F4.out.trans f5)
          have HP5 := hide hp5
          clear hd5 f5 hp5 D4 F4 MV4 G4 HC
          cases R2 with
          | none =>
            have l5 := HP5.out rfl
            clear l0
            simp only [Option.isSome_none]
            go_wp2_with fail
            go_ret
            have hb := (Below.refl w5.heap.size w5).alloc (Nat.le_refl _) (.cells #[.int .i64 ((i + 1 : Nat) : Int), .int .i64 111] 57)
            exact ⟨F5.out.trans (Fr.ofBelow hb), .inl ⟨i + 1, _, HST2.out, rfl, err_new w5 (i + 1) 111⟩⟩
          | some d' =>
            have hln := HLN.out d' rfl
            simp only [Option.isSome_some]
            go_wp2_with fail
            go_roundw
            · exact ⟨i + 1, d', by go_num, by omega, HD5.out d' rfl, HST2.out.symm, MV5.out, G5.out, F5.out, by have := NL.out; omega, by have := NL.out; omega, by have := NL.out; omega⟩
            · show n - ((i : Int) + 1).toNat < n - (i : Int).toNat
              omega
    · have hRd : R = .inr di := by
        rw [← HI.out.2.1, List.drop_eq_nil_of_le (by rw [← HXS.out]; have := HN.out; simp; omega)]
        rfl
      obtain ⟨vn, vp, vm, X⟩ := HI.out.1
      have c3 := cell_blk X.2.1 3 (v := .int .i64 (di.place : Int)) rfl
      clear X
      by_cases hp : di.place = 0
      · rw [hp] at c3
        go_wp2_with fail
        go_ret
        have hb := (Below.refl wr.heap.size wr).alloc (Nat.le_refl _) (.cells #[.int .i64 0, .int .i64 111] 57)
        exact ⟨HI.out.2.2.2.2.1.trans (Fr.ofBelow hb), .inr ⟨di, hRd, .inl ⟨hp, _, rfl, err_new wr 0 111⟩⟩⟩
      · have hp' : ((di.place : Int) == 0) = false := by simp; omega
        go_wp2_with fail
        go_ret
        exact ⟨HI.out.2.2.2.2.1, .inr ⟨di, hRd, .inr ⟨hp, rfl, HI.out.1⟩⟩⟩
end U
end Go.Proofs.YtfoahfgehmghcaaGreatDoor
