import Derived.Shelf.Strings.Builder1
import Derived.Shelf.Strings.Builder2
import Derived.Shelf.Strings.OnBuilder
import Derived.Shelf.Small.Bits
import Derived.Shelf.Strings.BuilderF
import Derived.Shelf.Strings.BuilderK
import Derived.Shelf.Strconv.Itoa0
import Derived.Shelf.Strconv.Itoa1
import Derived.Shelf.LaysM
import Derived.Shelf.Strconv.Itoa2
import Derived.Shelf.Strconv.Itoa3
import Derived.Shelf.Strconv.Clone
import Derived.Shelf.Strings.Search1
import Derived.Shelf.Strings.Search2
import Derived.Shelf.Strings.Search3
import Derived.Shelf.Strings.Cut
import Derived.Shelf.Strings.Count
import Derived.Shelf.Strings.Shaped
import Derived.Shelf.Sort.Plain
import Derived.Shelf.Strings.Split
import Derived.Shelf.Unicode.DecodeSlow
import Derived.Shelf.Strings.FieldsFuncAny
import Derived.Ground.Names2Prog
import Derived.Shelf.Slices.CompactI
import Derived.Shelf.Slices.In.SortNone
import Derived.Test.YtfoahfgehmghcaaGreatDoorProg
import Derived.Test.YtfoahfgehmghcaaGreatDoorChecked
import Derived.WalkKit
import Derived.Laws.BitsAllLaws
import Derived.Laws.AppendOwnNone
import Derived.Laws.CopyOwn
import Derived.Deep.OwnRows
import Derived.Below
import Derived.Deep.RegionHeld3
/- Contracts of library functions, laid at this program by the kit's own command (shelf.py). -/
namespace Go.Proofs
open Go.Shelf
def Tryz.lays169_ren : Go.Shelf.Ren := ⟨fun | 169 => 34 | n => n, fun | 70 => 71 | 9 => 9 | 0 => 0 | 72 => 74 | 37 => 72 | 127 => 118 | 3 => 3 | 5 => 5 | n => n, fun | n => n⟩
theorem Tryz.lays169 : Go.Proofs.Lays.n169 Tryz.prog Tryz.lays169_ren := {
  mixed := by kernel_rfl
  f169 := Tryz.func34.trans (congrArg some (by kernel_rfl))
  t0 := Tryz.underlying0
  a0 := Tryz.isAgg0
  z0 := Tryz.sizeOf0
  v0 := Tryz.zeroValue0
  t3 := Tryz.underlying3
  a3 := Tryz.isAgg3
  z3 := Tryz.sizeOf3
  v3 := Tryz.zeroValue3
  t9 := Tryz.underlying9
  a9 := Tryz.isAgg9
  z9 := Tryz.sizeOf9
  v9 := Tryz.zeroValue9
  t37 := Tryz.underlying72
  a37 := Tryz.isAgg72
  z37 := Tryz.sizeOf72
  v37 := Tryz.zeroValue72
  t70 := Tryz.underlying71
  a70 := Tryz.isAgg71
  z70 := Tryz.sizeOf71
  v70 := Tryz.zeroValue71
  t72 := Tryz.underlying74
  a72 := Tryz.isAgg74
  z72 := Tryz.sizeOf74
  v72 := Tryz.zeroValue74
  t127 := Tryz.underlying118
  a127 := Tryz.isAgg118
  z127 := Tryz.sizeOf118
  v127 := Tryz.zeroValue118 }
theorem Tryz.Builder_Extra_169 : Builder.Extra Tryz.prog Tryz.lays169_ren := {
  sizeBuilder := by kernel_rfl
  liesBuilder := by kernel_rfl
  t5 := Tryz.underlying5
  a5 := Tryz.isAgg5
  z5 := Tryz.sizeOf5
  v5 := Tryz.zeroValue5
  infoByte := by kernel_rfl
  cellsByte := by kernel_rfl
  sizeByte := by kernel_rfl
  neB5 := by decide }
open Go.RowKit in
theorem Tryz.Builder_String_any (B b : Nat) (l : List UInt8) (w : World) (h : Lib.IsBuilder 74 5 B b (Lib.byteCells l) w) (hBw : B ≤ w.heap.size) :
    Calls Tryz.prog 34 #[.pointer (some ⟨b, 0, none⟩)] w fun e w' => e = .returned (.string ⟨l.toArray⟩) ∧ Below B w w' := Any.Builder_String_any Tryz.lays169 Tryz.Builder_Extra_169 B b l w h hBw
def Tryz.lays156_ren : Go.Shelf.Ren := ⟨fun | 156 => 58 | 165 => 80 | 166 => 57 | 169 => 34 | 240 => 79 | 241 => 97 | 276 => 96 | 277 => 114 | n => n, fun | 31 => 58 | 9 => 9 | 3 => 3 | 4 => 4 | 0 => 0 | 20 => 20 | 72 => 74 | 76 => 114 | 70 => 71 | 37 => 72 | 75 => 50 | 127 => 118 | 164 => 90 | 5 => 5 | 80 => 78 | n => n, fun | n => n⟩
theorem Tryz.lays156 : Go.Proofs.Lays.n156 Tryz.prog Tryz.lays156_ren := {
  mixed := by kernel_rfl
  f156 := Tryz.func58.trans (congrArg some (by kernel_rfl))
  f165 := Tryz.func80.trans (congrArg some (by kernel_rfl))
  f166 := Tryz.func57.trans (congrArg some (by kernel_rfl))
  f169 := Tryz.func34.trans (congrArg some (by kernel_rfl))
  f240 := Tryz.func79.trans (congrArg some (by kernel_rfl))
  f241 := Tryz.func97.trans (congrArg some (by kernel_rfl))
  f276 := Tryz.func96.trans (congrArg some (by kernel_rfl))
  f277 := Tryz.func114.trans (congrArg some (by kernel_rfl))
  t0 := Tryz.underlying0
  a0 := Tryz.isAgg0
  z0 := Tryz.sizeOf0
  v0 := Tryz.zeroValue0
  t3 := Tryz.underlying3
  a3 := Tryz.isAgg3
  z3 := Tryz.sizeOf3
  v3 := Tryz.zeroValue3
  t4 := Tryz.underlying4
  a4 := Tryz.isAgg4
  z4 := Tryz.sizeOf4
  v4 := Tryz.zeroValue4
  t9 := Tryz.underlying9
  a9 := Tryz.isAgg9
  z9 := Tryz.sizeOf9
  v9 := Tryz.zeroValue9
  t20 := Tryz.underlying20
  a20 := Tryz.isAgg20
  z20 := Tryz.sizeOf20
  v20 := Tryz.zeroValue20
  t31 := Tryz.underlying58
  a31 := Tryz.isAgg58
  z31 := Tryz.sizeOf58
  v31 := Tryz.zeroValue58
  t37 := Tryz.underlying72
  a37 := Tryz.isAgg72
  z37 := Tryz.sizeOf72
  v37 := Tryz.zeroValue72
  t70 := Tryz.underlying71
  a70 := Tryz.isAgg71
  z70 := Tryz.sizeOf71
  v70 := Tryz.zeroValue71
  t72 := Tryz.underlying74
  a72 := Tryz.isAgg74
  z72 := Tryz.sizeOf74
  v72 := Tryz.zeroValue74
  t75 := Tryz.underlying50
  a75 := Tryz.isAgg50
  z75 := Tryz.sizeOf50
  v75 := Tryz.zeroValue50
  t76 := Tryz.underlying114
  a76 := Tryz.isAgg114
  z76 := Tryz.sizeOf114
  v76 := Tryz.zeroValue114
  t127 := Tryz.underlying118
  a127 := Tryz.isAgg118
  z127 := Tryz.sizeOf118
  v127 := Tryz.zeroValue118
  t164 := Tryz.underlying90
  a164 := Tryz.isAgg90
  z164 := Tryz.sizeOf90
  v164 := Tryz.zeroValue90 }
theorem Tryz.Builder_Extra_156 : Builder.Extra Tryz.prog Tryz.lays156_ren := {
  sizeBuilder := by kernel_rfl
  liesBuilder := by kernel_rfl
  t5 := Tryz.underlying5
  a5 := Tryz.isAgg5
  z5 := Tryz.sizeOf5
  v5 := Tryz.zeroValue5
  infoByte := by kernel_rfl
  cellsByte := by kernel_rfl
  sizeByte := by kernel_rfl
  neB5 := by decide }
open Go.RowKit in
theorem Tryz.strings_Join_none (a : Option Addr) (c : Nat) (sep : ByteArray) (w : World) :
    Calls Tryz.prog 58 #[.slice a 0 c, .string sep] w fun e w' => e = .returned (.string ⟨#[]⟩) ∧ w' = w := Any.strings_Join_none Tryz.lays156 Tryz.Builder_Extra_156 a c sep w
open Go.RowKit in
theorem Tryz.strings_Join (bk o c : Nat) (xs : List ByteArray) (sep : ByteArray) (w : World) (hcells : ∀ (j : Nat) x, xs[j]? = some x → w.cell? ⟨bk, o + j, none⟩ = some (.string x)) (hbk : bk < w.heap.size) (hN : xs.length ≤ 140737488355328) (hcap : xs.length ≤ c) (hlen : (Lib.join (xs.map (·.data.toList)) sep.data.toList).length ≤ 140737488355328) :
    Calls Tryz.prog 58 #[.slice (some ⟨bk, o, none⟩) xs.length c, .string sep] w fun e w' => e = .returned (.string ⟨(Lib.join (xs.map (·.data.toList)) sep.data.toList).toArray⟩) ∧ Below w.heap.size w w' := Any.strings_Join Tryz.lays156 Tryz.Builder_Extra_156 bk o c xs sep w hcells hbk hN hcap hlen
def Tryz.laysM171_ren : Go.Shelf.Ren := ⟨fun | 171 => 31 | 243 => 60 | 246 => 81 | 283 => 98 | 284 => 99 | 285 => 100 | 286 => 101 | 129 => 116 | 317 => 115 | 318 => 117 | 319 => 118 | 320 => 119 | 337 => 138 | 338 => 139 | n => n, fun | 3 => 3 | 9 => 9 | 2 => 2 | 4 => 4 | 171 => 166 | 0 => 0 | 53 => 163 | 37 => 72 | 5 => 5 | 173 => 169 | 212 => 183 | 51 => 184 | 20 => 20 | 213 => 185 | 46 => 179 | 232 => 205 | 233 => 206 | n => n, fun | 17 => 1 | 18 => 3 | 19 => 4 | n => n⟩
theorem Tryz.laysM171 : Go.Proofs.LaysM.n171 Tryz.prog Tryz.laysM171_ren := {
  mixed := by kernel_rfl
  f129 := Tryz.func116.trans (congrArg some (by kernel_rfl))
  f171 := Tryz.func31.trans (congrArg some (by kernel_rfl))
  f243 := Tryz.func60.trans (congrArg some (by kernel_rfl))
  f246 := Tryz.func81.trans (congrArg some (by kernel_rfl))
  f283 := Tryz.func98.trans (congrArg some (by kernel_rfl))
  f284 := Tryz.func99.trans (congrArg some (by kernel_rfl))
  f285 := Tryz.func100.trans (congrArg some (by kernel_rfl))
  f286 := Tryz.func101.trans (congrArg some (by kernel_rfl))
  f317 := Tryz.func115.trans (congrArg some (by kernel_rfl))
  f318 := Tryz.func117.trans (congrArg some (by kernel_rfl))
  f319 := Tryz.func118.trans (congrArg some (by kernel_rfl))
  f320 := Tryz.func119.trans (congrArg some (by kernel_rfl))
  f337 := Tryz.func138.trans (congrArg some (by kernel_rfl))
  f338 := Tryz.func139.trans (congrArg some (by kernel_rfl))
  t0 := Tryz.underlying0
  a0 := Tryz.isAgg0
  z0 := Tryz.sizeOf0
  v0 := Tryz.zeroValue0
  t2 := Tryz.underlying2
  a2 := Tryz.isAgg2
  z2 := Tryz.sizeOf2
  v2 := Tryz.zeroValue2
  t3 := Tryz.underlying3
  a3 := Tryz.isAgg3
  z3 := Tryz.sizeOf3
  v3 := Tryz.zeroValue3
  t4 := Tryz.underlying4
  a4 := Tryz.isAgg4
  z4 := Tryz.sizeOf4
  v4 := Tryz.zeroValue4
  t5 := Tryz.underlying5
  a5 := Tryz.isAgg5
  z5 := Tryz.sizeOf5
  v5 := Tryz.zeroValue5
  t9 := Tryz.underlying9
  a9 := Tryz.isAgg9
  z9 := Tryz.sizeOf9
  v9 := Tryz.zeroValue9
  t20 := Tryz.underlying20
  a20 := Tryz.isAgg20
  z20 := Tryz.sizeOf20
  v20 := Tryz.zeroValue20
  t37 := Tryz.underlying72
  a37 := Tryz.isAgg72
  z37 := Tryz.sizeOf72
  v37 := Tryz.zeroValue72
  t46 := Tryz.underlying179
  a46 := Tryz.isAgg179
  z46 := Tryz.sizeOf179
  v46 := Tryz.zeroValue179
  t51 := Tryz.underlying184
  a51 := Tryz.isAgg184
  z51 := Tryz.sizeOf184
  v51 := Tryz.zeroValue184
  t53 := Tryz.underlying163
  a53 := Tryz.isAgg163
  z53 := Tryz.sizeOf163
  v53 := Tryz.zeroValue163
  t171 := Tryz.underlying166
  a171 := Tryz.isAgg166
  z171 := Tryz.sizeOf166
  v171 := Tryz.zeroValue166
  t173 := Tryz.underlying169
  a173 := Tryz.isAgg169
  z173 := Tryz.sizeOf169
  v173 := Tryz.zeroValue169
  t212 := Tryz.underlying183
  a212 := Tryz.isAgg183
  z212 := Tryz.sizeOf183
  v212 := Tryz.zeroValue183
  t213 := Tryz.underlying185
  a213 := Tryz.isAgg185
  z213 := Tryz.sizeOf185
  t232 := Tryz.underlying205
  a232 := Tryz.isAgg205
  z232 := Tryz.sizeOf205
  v232 := Tryz.zeroValue205
  t233 := Tryz.underlying206
  a233 := Tryz.isAgg206
  z233 := Tryz.sizeOf206
  v233 := Tryz.zeroValue206
  g17 := by kernel_rfl
  g18 := by kernel_rfl
  g19 := by kernel_rfl
  i0 := by kernel_rfl
  i2 := by kernel_rfl
  i3 := by kernel_rfl
  i4 := by kernel_rfl
  i5 := by kernel_rfl
  i9 := by kernel_rfl
  i20 := by kernel_rfl
  i37 := by kernel_rfl
  i46 := by kernel_rfl
  i51 := by kernel_rfl
  i53 := by kernel_rfl
  i171 := by kernel_rfl
  i173 := by kernel_rfl
  i212 := by kernel_rfl
  i232 := by kernel_rfl
  i233 := by kernel_rfl
  m17 := by kernel_rfl
  m18 := by kernel_rfl
  m19 := by kernel_rfl }
open Go.RowKit Go.Sort Go.Lib in
theorem Tryz.strconv_Itoa (n : Int) (h0 : -9223372036854775808 ≤ n) (h1 : n ≤ 9223372036854775807) (w : World) (htab : Lib.TabIs Tryz.prog w "internal/strconv.uint64pow10" .u64 Lib.pow10Tab) :
    Calls Tryz.prog 31 #[.int .i64 n] w fun e w' => e = .returned (.string ⟨(Lib.itoa n).toArray⟩) ∧ ∃ k os, w' = grow (w.drewN k) os := Any.strconv_Itoa Tryz.laysM171 n h0 h1 w htab
def Tryz.laysM316_ren : Go.Shelf.Ren := ⟨fun | 316 => 140 | n => n, fun | 9 => 9 | 3 => 3 | 4 => 4 | 37 => 72 | 0 => 0 | 127 => 118 | 5 => 5 | n => n, fun | n => n⟩
theorem Tryz.laysM316 : Go.Proofs.LaysM.n316 Tryz.prog Tryz.laysM316_ren := {
  mixed := by kernel_rfl
  f316 := Tryz.func140.trans (congrArg some (by kernel_rfl))
  t0 := Tryz.underlying0
  a0 := Tryz.isAgg0
  z0 := Tryz.sizeOf0
  v0 := Tryz.zeroValue0
  t3 := Tryz.underlying3
  a3 := Tryz.isAgg3
  z3 := Tryz.sizeOf3
  v3 := Tryz.zeroValue3
  t4 := Tryz.underlying4
  a4 := Tryz.isAgg4
  z4 := Tryz.sizeOf4
  v4 := Tryz.zeroValue4
  t9 := Tryz.underlying9
  a9 := Tryz.isAgg9
  z9 := Tryz.sizeOf9
  v9 := Tryz.zeroValue9
  t37 := Tryz.underlying72
  a37 := Tryz.isAgg72
  z37 := Tryz.sizeOf72
  v37 := Tryz.zeroValue72
  t127 := Tryz.underlying118
  a127 := Tryz.isAgg118
  z127 := Tryz.sizeOf118
  v127 := Tryz.zeroValue118
  t5 := Tryz.underlying5
  a5 := Tryz.isAgg5
  z5 := Tryz.sizeOf5
  v5 := Tryz.zeroValue5
  i0 := by kernel_rfl
  i3 := by kernel_rfl
  i4 := by kernel_rfl
  i5 := by kernel_rfl
  i9 := by kernel_rfl
  i37 := by kernel_rfl
  i127 := by kernel_rfl }
open Go.RowKit in
theorem Tryz.stringslite_Clone (s : ByteArray) (w : World) (hlim : s.size ≤ 281474976710656) :
    Calls Tryz.prog 140 #[.string s] w fun e w' => e = .returned (.string s) ∧ Below w.heap.size w w' := Any.stringslite_Clone Tryz.laysM316 s w hlim
def Tryz.lays219_ren : Go.Shelf.Ren := ⟨fun | 219 => 127 | 217 => 142 | 225 => 143 | 224 => 144 | 267 => 145 | 266 => 152 | 314 => 153 | n => n, fun | 9 => 9 | 3 => 3 | 4 => 4 | 5 => 5 | 46 => 179 | 146 => 211 | 51 => 184 | n => n, fun | 1 => 2 | n => n⟩
theorem Tryz.lays219 : Go.Proofs.Lays.n219 Tryz.prog Tryz.lays219_ren := {
  mixed := by kernel_rfl
  f217 := Tryz.func142.trans (congrArg some (by kernel_rfl))
  f219 := Tryz.func127.trans (congrArg some (by kernel_rfl))
  f224 := Tryz.func144.trans (congrArg some (by kernel_rfl))
  f225 := Tryz.func143.trans (congrArg some (by kernel_rfl))
  f266 := Tryz.func152.trans (congrArg some (by kernel_rfl))
  f267 := Tryz.func145.trans (congrArg some (by kernel_rfl))
  f314 := Tryz.func153.trans (congrArg some (by kernel_rfl))
  t3 := Tryz.underlying3
  a3 := Tryz.isAgg3
  z3 := Tryz.sizeOf3
  v3 := Tryz.zeroValue3
  t4 := Tryz.underlying4
  a4 := Tryz.isAgg4
  z4 := Tryz.sizeOf4
  v4 := Tryz.zeroValue4
  t5 := Tryz.underlying5
  a5 := Tryz.isAgg5
  z5 := Tryz.sizeOf5
  v5 := Tryz.zeroValue5
  t9 := Tryz.underlying9
  a9 := Tryz.isAgg9
  z9 := Tryz.sizeOf9
  v9 := Tryz.zeroValue9
  t46 := Tryz.underlying179
  a46 := Tryz.isAgg179
  z46 := Tryz.sizeOf179
  v46 := Tryz.zeroValue179
  t51 := Tryz.underlying184
  a51 := Tryz.isAgg184
  z51 := Tryz.sizeOf184
  v51 := Tryz.zeroValue184
  t146 := Tryz.underlying211
  a146 := Tryz.isAgg211
  z146 := Tryz.sizeOf211
  v146 := Tryz.zeroValue211
  g1 := by kernel_rfl }
open Go.RowKit Go.Lib in
theorem Tryz.stringslite_Index_one (s : ByteArray) (c : UInt8) (w : World) :
    Calls Tryz.prog 127 #[.string s, .string ⟨#[c]⟩] w fun e w' => e = .returned (.int .i64 (Lib.indexByte s.data.toList c)) ∧ w' = w := Any.stringslite_Index_one Tryz.lays219 s c w
def Tryz.lays143_ren : Go.Shelf.Ren := ⟨fun | 143 => 110 | 219 => 127 | 217 => 142 | 225 => 143 | 224 => 144 | 267 => 145 | 266 => 152 | 314 => 153 | n => n, fun | 9 => 9 | 3 => 3 | 4 => 4 | 5 => 5 | 46 => 179 | 146 => 211 | 51 => 184 | n => n, fun | 1 => 2 | n => n⟩
theorem Tryz.lays143 : Go.Proofs.Lays.n143 Tryz.prog Tryz.lays143_ren := {
  mixed := by kernel_rfl
  f143 := Tryz.func110.trans (congrArg some (by kernel_rfl))
  f217 := Tryz.func142.trans (congrArg some (by kernel_rfl))
  f219 := Tryz.func127.trans (congrArg some (by kernel_rfl))
  f224 := Tryz.func144.trans (congrArg some (by kernel_rfl))
  f225 := Tryz.func143.trans (congrArg some (by kernel_rfl))
  f266 := Tryz.func152.trans (congrArg some (by kernel_rfl))
  f267 := Tryz.func145.trans (congrArg some (by kernel_rfl))
  f314 := Tryz.func153.trans (congrArg some (by kernel_rfl))
  t3 := Tryz.underlying3
  a3 := Tryz.isAgg3
  z3 := Tryz.sizeOf3
  v3 := Tryz.zeroValue3
  t4 := Tryz.underlying4
  a4 := Tryz.isAgg4
  z4 := Tryz.sizeOf4
  v4 := Tryz.zeroValue4
  t5 := Tryz.underlying5
  a5 := Tryz.isAgg5
  z5 := Tryz.sizeOf5
  v5 := Tryz.zeroValue5
  t9 := Tryz.underlying9
  a9 := Tryz.isAgg9
  z9 := Tryz.sizeOf9
  v9 := Tryz.zeroValue9
  t46 := Tryz.underlying179
  a46 := Tryz.isAgg179
  z46 := Tryz.sizeOf179
  v46 := Tryz.zeroValue179
  t51 := Tryz.underlying184
  a51 := Tryz.isAgg184
  z51 := Tryz.sizeOf184
  v51 := Tryz.zeroValue184
  t146 := Tryz.underlying211
  a146 := Tryz.isAgg211
  z146 := Tryz.sizeOf211
  v146 := Tryz.zeroValue211
  g1 := by kernel_rfl }
open Go.RowKit Go.Lib in
theorem Tryz.strings_Index_one (s : ByteArray) (c : UInt8) (w : World) :
    Calls Tryz.prog 110 #[.string s, .string ⟨#[c]⟩] w fun e w' => e = .returned (.int .i64 (Lib.indexByte s.data.toList c)) ∧ w' = w := Any.strings_Index_one Tryz.lays143 s c w
def Tryz.lays138_ren : Go.Shelf.Ren := ⟨fun | 138 => 109 | 195 => 124 | 218 => 126 | 143 => 110 | 219 => 127 | 217 => 142 | 225 => 143 | 224 => 144 | 267 => 145 | 266 => 152 | 314 => 153 | n => n, fun | 9 => 9 | 3 => 3 | 4 => 4 | 5 => 5 | 0 => 0 | 46 => 179 | 146 => 211 | 51 => 184 | n => n, fun | 1 => 2 | n => n⟩
theorem Tryz.lays138 : Go.Proofs.Lays.n138 Tryz.prog Tryz.lays138_ren := {
  mixed := by kernel_rfl
  f138 := Tryz.func109.trans (congrArg some (by kernel_rfl))
  f143 := Tryz.func110.trans (congrArg some (by kernel_rfl))
  f195 := Tryz.func124.trans (congrArg some (by kernel_rfl))
  f217 := Tryz.func142.trans (congrArg some (by kernel_rfl))
  f218 := Tryz.func126.trans (congrArg some (by kernel_rfl))
  f219 := Tryz.func127.trans (congrArg some (by kernel_rfl))
  f224 := Tryz.func144.trans (congrArg some (by kernel_rfl))
  f225 := Tryz.func143.trans (congrArg some (by kernel_rfl))
  f266 := Tryz.func152.trans (congrArg some (by kernel_rfl))
  f267 := Tryz.func145.trans (congrArg some (by kernel_rfl))
  f314 := Tryz.func153.trans (congrArg some (by kernel_rfl))
  t0 := Tryz.underlying0
  a0 := Tryz.isAgg0
  z0 := Tryz.sizeOf0
  v0 := Tryz.zeroValue0
  t3 := Tryz.underlying3
  a3 := Tryz.isAgg3
  z3 := Tryz.sizeOf3
  v3 := Tryz.zeroValue3
  t4 := Tryz.underlying4
  a4 := Tryz.isAgg4
  z4 := Tryz.sizeOf4
  v4 := Tryz.zeroValue4
  t5 := Tryz.underlying5
  a5 := Tryz.isAgg5
  z5 := Tryz.sizeOf5
  v5 := Tryz.zeroValue5
  t9 := Tryz.underlying9
  a9 := Tryz.isAgg9
  z9 := Tryz.sizeOf9
  v9 := Tryz.zeroValue9
  t46 := Tryz.underlying179
  a46 := Tryz.isAgg179
  z46 := Tryz.sizeOf179
  v46 := Tryz.zeroValue179
  t51 := Tryz.underlying184
  a51 := Tryz.isAgg184
  z51 := Tryz.sizeOf184
  v51 := Tryz.zeroValue184
  t146 := Tryz.underlying211
  a146 := Tryz.isAgg211
  z146 := Tryz.sizeOf211
  v146 := Tryz.zeroValue211
  g1 := by kernel_rfl }
open Go.RowKit Go.Lib in
theorem Tryz.strings_Count_one (s : ByteArray) (c : UInt8) (w : World) :
    Calls Tryz.prog 109 #[.string s, .string ⟨#[c]⟩] w fun e w' => e = .returned (.int .i64 (Lib.countByte s.data.toList c)) ∧ w' = w := Any.strings_Count_one Tryz.lays138 s c w
def Tryz.lays189_ren : Go.Shelf.Ren := ⟨fun | 189 => 93 | 125 => 113 | 257 => 112 | 128 => 137 | 129 => 116 | 294 => 128 | 295 => 129 | 296 => 130 | 297 => 131 | 298 => 132 | 299 => 133 | 216 => 134 | 300 => 135 | 301 => 136 | 328 => 146 | 329 => 147 | 330 => 148 | 331 => 149 | 332 => 150 | 215 => 151 | 343 => 154 | n => n, fun | 28 => 30 | 3 => 3 | 46 => 179 | 0 => 0 | 51 => 184 | 53 => 163 | 4 => 4 | 183 => 193 | 182 => 192 | 131 => 147 | 5 => 5 | 9 => 9 | 218 => 199 | 222 => 203 | 228 => 213 | 229 => 214 | n => n, fun | n => n⟩
theorem Tryz.lays189 : Go.Proofs.Lays.n189 Tryz.prog Tryz.lays189_ren := {
  mixed := by kernel_rfl
  f125 := Tryz.func113.trans (congrArg some (by kernel_rfl))
  f128 := Tryz.func137.trans (congrArg some (by kernel_rfl))
  f129 := Tryz.func116.trans (congrArg some (by kernel_rfl))
  f189 := Tryz.func93.trans (congrArg some (by kernel_rfl))
  f215 := Tryz.func151.trans (congrArg some (by kernel_rfl))
  f216 := Tryz.func134.trans (congrArg some (by kernel_rfl))
  f257 := Tryz.func112.trans (congrArg some (by kernel_rfl))
  f294 := Tryz.func128.trans (congrArg some (by kernel_rfl))
  f295 := Tryz.func129.trans (congrArg some (by kernel_rfl))
  f296 := Tryz.func130.trans (congrArg some (by kernel_rfl))
  f297 := Tryz.func131.trans (congrArg some (by kernel_rfl))
  f298 := Tryz.func132.trans (congrArg some (by kernel_rfl))
  f299 := Tryz.func133.trans (congrArg some (by kernel_rfl))
  f300 := Tryz.func135.trans (congrArg some (by kernel_rfl))
  f301 := Tryz.func136.trans (congrArg some (by kernel_rfl))
  f328 := Tryz.func146.trans (congrArg some (by kernel_rfl))
  f329 := Tryz.func147.trans (congrArg some (by kernel_rfl))
  f330 := Tryz.func148.trans (congrArg some (by kernel_rfl))
  f331 := Tryz.func149.trans (congrArg some (by kernel_rfl))
  f332 := Tryz.func150.trans (congrArg some (by kernel_rfl))
  f343 := Tryz.func154.trans (congrArg some (by kernel_rfl))
  t0 := Tryz.underlying0
  a0 := Tryz.isAgg0
  z0 := Tryz.sizeOf0
  v0 := Tryz.zeroValue0
  t3 := Tryz.underlying3
  a3 := Tryz.isAgg3
  z3 := Tryz.sizeOf3
  v3 := Tryz.zeroValue3
  t4 := Tryz.underlying4
  a4 := Tryz.isAgg4
  z4 := Tryz.sizeOf4
  v4 := Tryz.zeroValue4
  t5 := Tryz.underlying5
  a5 := Tryz.isAgg5
  z5 := Tryz.sizeOf5
  v5 := Tryz.zeroValue5
  t9 := Tryz.underlying9
  a9 := Tryz.isAgg9
  z9 := Tryz.sizeOf9
  v9 := Tryz.zeroValue9
  t28 := Tryz.underlying30
  a28 := Tryz.isAgg30
  z28 := Tryz.sizeOf30
  v28 := Tryz.zeroValue30
  t46 := Tryz.underlying179
  a46 := Tryz.isAgg179
  z46 := Tryz.sizeOf179
  v46 := Tryz.zeroValue179
  t51 := Tryz.underlying184
  a51 := Tryz.isAgg184
  z51 := Tryz.sizeOf184
  v51 := Tryz.zeroValue184
  t53 := Tryz.underlying163
  a53 := Tryz.isAgg163
  z53 := Tryz.sizeOf163
  v53 := Tryz.zeroValue163
  t131 := Tryz.underlying147
  a131 := Tryz.isAgg147
  z131 := Tryz.sizeOf147
  v131 := Tryz.zeroValue147
  t182 := Tryz.underlying192
  a182 := Tryz.isAgg192
  z182 := Tryz.sizeOf192
  v182 := Tryz.zeroValue192
  t183 := Tryz.underlying193
  a183 := Tryz.isAgg193
  z183 := Tryz.sizeOf193
  v183 := Tryz.zeroValue193
  t218 := Tryz.underlying199
  a218 := Tryz.isAgg199
  z218 := Tryz.sizeOf199
  v218 := Tryz.zeroValue199
  t222 := Tryz.underlying203
  a222 := Tryz.isAgg203
  z222 := Tryz.sizeOf203
  v222 := Tryz.zeroValue203
  t228 := Tryz.underlying213
  a228 := Tryz.isAgg213
  z228 := Tryz.sizeOf213
  v228 := Tryz.zeroValue213
  t229 := Tryz.underlying214
  a229 := Tryz.isAgg214
  z229 := Tryz.sizeOf214
  v229 := Tryz.zeroValue214 }
open Go.Sort Go.RowKit in
theorem Tryz.slices_Sort_int (blk off cap : Nat) (zs : List Int) (w : World) (hH : Holds (Value.int .i64) w blk off zs.toArray) (hblk : blk < w.heap.size) (hsz : zs.length < 4611686018427387904) :
    Calls Tryz.prog 93 #[.slice (some ⟨blk, off, none⟩) zs.length cap] w fun e w' =>
      e = .returned (.tuple #[]) ∧ ∃ n os, w' = grow (putRow (Value.int .i64) (Sort.ahead w n) blk off (zs.mergeSort fun x y => decide (x ≤ y)).toArray) os := Any.slices_Sort_int Tryz.lays189 blk off cap zs w hH hblk hsz
def Tryz.lays221_ren : Go.Shelf.Ren := ⟨fun | 221 => 88 | 268 => 108 | 138 => 109 | 143 => 110 | 195 => 124 | 197 => 125 | 218 => 126 | 219 => 127 | 260 => 141 | 217 => 142 | 225 => 143 | 224 => 144 | 267 => 145 | 266 => 152 | 314 => 153 | n => n, fun | 9 => 9 | 3 => 3 | 31 => 58 | 4 => 4 | 0 => 0 | 105 => 188 | 21 => 21 | 5 => 5 | 46 => 179 | 119 => 207 | 139 => 210 | 138 => 209 | 146 => 211 | 51 => 184 | n => n, fun | 1 => 2 | 3 => 5 | 4 => 6 | n => n⟩
theorem Tryz.lays221 : Go.Proofs.Lays.n221 Tryz.prog Tryz.lays221_ren := {
  mixed := by kernel_rfl
  f138 := Tryz.func109.trans (congrArg some (by kernel_rfl))
  f143 := Tryz.func110.trans (congrArg some (by kernel_rfl))
  f195 := Tryz.func124.trans (congrArg some (by kernel_rfl))
  f197 := Tryz.func125.trans (congrArg some (by kernel_rfl))
  f217 := Tryz.func142.trans (congrArg some (by kernel_rfl))
  f218 := Tryz.func126.trans (congrArg some (by kernel_rfl))
  f219 := Tryz.func127.trans (congrArg some (by kernel_rfl))
  f221 := Tryz.func88.trans (congrArg some (by kernel_rfl))
  f224 := Tryz.func144.trans (congrArg some (by kernel_rfl))
  f225 := Tryz.func143.trans (congrArg some (by kernel_rfl))
  f260 := Tryz.func141.trans (congrArg some (by kernel_rfl))
  f266 := Tryz.func152.trans (congrArg some (by kernel_rfl))
  f267 := Tryz.func145.trans (congrArg some (by kernel_rfl))
  f268 := Tryz.func108.trans (congrArg some (by kernel_rfl))
  f314 := Tryz.func153.trans (congrArg some (by kernel_rfl))
  t0 := Tryz.underlying0
  a0 := Tryz.isAgg0
  z0 := Tryz.sizeOf0
  v0 := Tryz.zeroValue0
  t3 := Tryz.underlying3
  a3 := Tryz.isAgg3
  z3 := Tryz.sizeOf3
  v3 := Tryz.zeroValue3
  t4 := Tryz.underlying4
  a4 := Tryz.isAgg4
  z4 := Tryz.sizeOf4
  v4 := Tryz.zeroValue4
  t5 := Tryz.underlying5
  a5 := Tryz.isAgg5
  z5 := Tryz.sizeOf5
  v5 := Tryz.zeroValue5
  t9 := Tryz.underlying9
  a9 := Tryz.isAgg9
  z9 := Tryz.sizeOf9
  v9 := Tryz.zeroValue9
  t21 := Tryz.underlying21
  a21 := Tryz.isAgg21
  z21 := Tryz.sizeOf21
  v21 := Tryz.zeroValue21
  t31 := Tryz.underlying58
  a31 := Tryz.isAgg58
  z31 := Tryz.sizeOf58
  v31 := Tryz.zeroValue58
  t46 := Tryz.underlying179
  a46 := Tryz.isAgg179
  z46 := Tryz.sizeOf179
  v46 := Tryz.zeroValue179
  t51 := Tryz.underlying184
  a51 := Tryz.isAgg184
  z51 := Tryz.sizeOf184
  v51 := Tryz.zeroValue184
  t105 := Tryz.underlying188
  a105 := Tryz.isAgg188
  z105 := Tryz.sizeOf188
  v105 := Tryz.zeroValue188
  t119 := Tryz.underlying207
  a119 := Tryz.isAgg207
  z119 := Tryz.sizeOf207
  t138 := Tryz.underlying209
  a138 := Tryz.isAgg209
  z138 := Tryz.sizeOf209
  v138 := Tryz.zeroValue209
  t139 := Tryz.underlying210
  a139 := Tryz.isAgg210
  z139 := Tryz.sizeOf210
  v139 := Tryz.zeroValue210
  t146 := Tryz.underlying211
  a146 := Tryz.isAgg211
  z146 := Tryz.sizeOf211
  v146 := Tryz.zeroValue211
  g1 := by kernel_rfl
  g3 := by kernel_rfl
  g4 := by kernel_rfl }
open Go.RowKit Go.Lib in
theorem Tryz.strings_genSplit (s sep : ByteArray) (sv : Nat) (n : Int) (N : Nat) (m : Int) (w : World) (hs : s.size < 4294967281) (hm : w.cell? ⟨2, 0, none⟩ = some (.int .i64 m)) (h1 : 1 ≤ sep.size) (hsv : sv ≤ sep.size) (hn0 : n ≠ 0) (hn63 : n ≤ 9223372036854775807) (hN : (N : Int) = min (if n < 0 then (Lib.countB s sep : Int) + 1 else n) ((s.size : Int) + 1)) :
    Calls Tryz.prog 88 #[.string s, .string sep, .int .i64 sv, .int .i64 n] w fun e w' =>
      e = .returned (.slice (some ⟨w.heap.size, 0, none⟩) (Lib.splitB sep sv (N - 1) s).length N) ∧ w' = w.alloc (.cells (Lib.cellsOf (Lib.splitB sep sv (N - 1) s) N) 9) := Any.strings_genSplit Tryz.lays221 (by kernel_rfl) s sep sv n N m w hs hm h1 hsv hn0 hn63 hN
def Tryz.lays229_ren : Go.Shelf.Ren := ⟨fun | 229 => 90 | n => n, fun | 9 => 9 | 40 => 160 | 31 => 58 | 152 => 174 | 3 => 3 | 0 => 0 | 4 => 4 | 21 => 21 | 154 => 176 | n => n, fun | n => n⟩
theorem Tryz.lays229 : Go.Proofs.Lays.n229 Tryz.prog Tryz.lays229_ren := {
  mixed := by kernel_rfl
  f229 := Tryz.func90.trans (congrArg some (by kernel_rfl))
  t0 := Tryz.underlying0
  a0 := Tryz.isAgg0
  z0 := Tryz.sizeOf0
  v0 := Tryz.zeroValue0
  t3 := Tryz.underlying3
  a3 := Tryz.isAgg3
  z3 := Tryz.sizeOf3
  v3 := Tryz.zeroValue3
  t4 := Tryz.underlying4
  a4 := Tryz.isAgg4
  z4 := Tryz.sizeOf4
  v4 := Tryz.zeroValue4
  t9 := Tryz.underlying9
  a9 := Tryz.isAgg9
  z9 := Tryz.sizeOf9
  v9 := Tryz.zeroValue9
  t21 := Tryz.underlying21
  a21 := Tryz.isAgg21
  z21 := Tryz.sizeOf21
  v21 := Tryz.zeroValue21
  t31 := Tryz.underlying58
  a31 := Tryz.isAgg58
  z31 := Tryz.sizeOf58
  v31 := Tryz.zeroValue58
  t40 := Tryz.underlying160
  a40 := Tryz.isAgg160
  z40 := Tryz.sizeOf160
  v40 := Tryz.zeroValue160
  t152 := Tryz.underlying174
  a152 := Tryz.isAgg174
  z152 := Tryz.sizeOf174
  v152 := Tryz.zeroValue174
  t154 := Tryz.underlying176
  a154 := Tryz.isAgg176
  z154 := Tryz.sizeOf176
  v154 := Tryz.zeroValue176 }
open Go.RowKit Go.Lib in
theorem Tryz.strings_FieldsFunc_runes (g : Nat) (lb : Array Value) (eg : ∀ args w, (callFunc g args).run Tryz.prog w = .ok (.enter g args) w) (p : Nat → Bool) (s : ByteArray) (w : World) (hs : s.size ≤ 4294967296) (hp : PredAtRunes Tryz.prog g lb p w) :
    Calls Tryz.prog 90 #[.string s, .func (.func g) #[] lb] w fun e w' => ∃ A, e = .returned (.slice (some ⟨A, 0, none⟩) (Lib.goFieldsP p s).length (Lib.goFieldsP p s).length) ∧ w.heap.size ≤ A ∧
      w'.ownsRow w.heap.size 9 1 (.slice (some ⟨A, 0, none⟩) (Lib.goFieldsP p s).length (Lib.goFieldsP p s).length) (Lib.goFieldsP p s).length ((Lib.goFieldsP p s).map Value.string) ∧ Below w.heap.size w w' := Any.strings_FieldsFunc_runes Tryz.lays229 g lb eg p s w hs hp (by kernel_rfl) (by kernel_rfl)
def Tryz.laysNm220_ren : Go.Shelf.Ren := ⟨fun | 20 => 94 | n => n, fun | 22 => 30 | 3 => 3 | 4 => 4 | 0 => 0 | n => n, fun | n => n⟩
theorem Tryz.laysNm220 : Go.Proofs.Lays2.n20 Tryz.prog Tryz.laysNm220_ren := {
  mixed := by kernel_rfl
  f20 := Tryz.func94.trans (congrArg some (by kernel_rfl))
  t0 := Tryz.underlying0
  a0 := Tryz.isAgg0
  z0 := Tryz.sizeOf0
  v0 := Tryz.zeroValue0
  t3 := Tryz.underlying3
  a3 := Tryz.isAgg3
  z3 := Tryz.sizeOf3
  v3 := Tryz.zeroValue3
  t4 := Tryz.underlying4
  a4 := Tryz.isAgg4
  z4 := Tryz.sizeOf4
  v4 := Tryz.zeroValue4
  t22 := Tryz.underlying30
  a22 := Tryz.isAgg30
  z22 := Tryz.sizeOf30
  v22 := Tryz.zeroValue30
  i3 := by kernel_rfl }
open Go.RowKit Go.Lib Go.Sort in
theorem Tryz.slices_Compact_int (blk off cap : Nat) (zs : List Int) (w : World) (hH : Holds (Value.int .i64) w blk off zs.toArray) (hsz : zs.length ≤ 9223372036854775807) (hcap : zs.length ≤ cap) :
    Calls Tryz.prog 94 #[.slice (some ⟨blk, off, none⟩) zs.length cap] w fun e w' => e = .returned (.slice (some ⟨blk, off, none⟩) (Lib.compact zs).length cap) ∧ ∃ q, w' = putRow (Value.int .i64) (Sort.ahead w q) blk off (Lib.compact zs ++ List.replicate (zs.length - (Lib.compact zs).length) 0).toArray := Any.slices_Compact_int Tryz.laysNm220 blk off cap zs w hH hsz hcap
open Go.RowKit Go.Lib Go.Sort in
theorem Tryz.slices_Compact_int_empty (a : Option Addr) (cap : Nat) (w : World) :
    Calls Tryz.prog 94 #[.slice a 0 cap] w fun e w' => e = .returned (.slice a 0 cap) ∧ w' = w := Any.slices_Compact_int_empty Tryz.laysNm220 a cap w
open Go.RowKit Go.Sort in
theorem Tryz.slices_Sort_int_none (p : Option Addr) (cap : Nat) (w : World) :
    Calls Tryz.prog 93 #[.slice p 0 cap] w fun e w' => e = .returned (.tuple #[]) ∧ w' = w := Any.slices_Sort_int_none Tryz.lays189 p cap w
end Go.Proofs

/- Package wheel: memory: which blocks stay, rows of the call's own, cells of a block. -/
namespace Go.Proofs.YtfoahfgehmghcaaGreatDoor
open Go.RowKit

theorem hide {p : Prop} (h : p) : Hid p := h
theorem ret_int {k : IntKind} {a b : Int} (h : a = b) : Ending.returned (.int k a) = .returned (.int k b) := by rw [h]

/-- all blocks but those of S stay -/
structure Keep (S : Nat → Prop) (w w' : World) : Prop where
  os : w'.os = w.os
  tape : w'.tape = w.tape
  output : w'.output = w.output
  size : w.heap.size ≤ w'.heap.size
  block : ∀ k, k < w.heap.size → ¬ S k → w'.heap[k]? = w.heap[k]?

theorem Keep.refl (S : Nat → Prop) (w : World) : Keep S w w := ⟨rfl, rfl, rfl, Nat.le_refl _, fun _ _ _ => rfl⟩
theorem Keep.trans {S T : Nat → Prop} {a b c : World} (h : Keep S a b) (k : Keep T b c) (hT : ∀ i, T i → S i ∨ a.heap.size ≤ i) : Keep S a c :=
  ⟨k.os.trans h.os, k.tape.trans h.tape, k.output.trans h.output, Nat.le_trans h.size k.size, fun i hi hn => (k.block i (Nat.lt_of_lt_of_le hi h.size) (fun ht => (hT i ht).elim hn (fun h' => by omega))).trans (h.block i hi hn)⟩
theorem Keep.more {S : Nat → Prop} {a b c : World} (h : Keep S a b) (k : Keep S b c) : Keep S a c := h.trans k fun _ h => .inl h
theorem Keep.mono {S T : Nat → Prop} {a b : World} (h : Keep S a b) (hT : ∀ i, S i → T i) : Keep T a b := ⟨h.os, h.tape, h.output, h.size, fun k hk hn => h.block k hk fun hs => hn (hT k hs)⟩
theorem Keep.ofBelow {S : Nat → Prop} {a b : World} {B : Nat} (h : Below B a b) (hB : a.heap.size ≤ B) : Keep S a b := ⟨h.os, h.tape, h.output, h.size, fun k hk _ => h.block k (by omega)⟩
theorem Keep.below {S : Nat → Prop} {a b : World} {B : Nat} (h : Keep S a b) (hB : B ≤ a.heap.size) (hS : ∀ i, S i → B ≤ i) : Below B a b := ⟨h.os, h.tape, h.output, h.size, fun k hk => h.block k (by omega) fun hs => by have := hS k hs; omega⟩
theorem Keep.alloc (S : Nat → Prop) (w : World) (o : Obj) : Keep S w (w.alloc o) := ⟨rfl, rfl, rfl, by simp, fun k hk _ => Below.heap_alloc _ _ _ hk⟩
theorem Keep.drew (S : Nat → Prop) (w : World) : Keep S w w.drew := ⟨rfl, rfl, rfl, Nat.le_refl _, fun _ _ _ => rfl⟩
theorem Keep.setCell {S : Nat → Prop} (w : World) {p : Addr} (hp : S p.block) (u : Value) : Keep S w (w.setCell p u) := ⟨rfl, rfl, rfl, by simp [World.setCell], fun k _ hn => Below.heap_setCell _ _ _ _ fun e => hn (e ▸ hp)⟩
theorem Keep.grown {S : Nat → Prop} {w w' : World} {row : Option Nat} (h : w.grownBy w' row) (hr : ∀ k, row = some k → S k) : Keep S w w' := ⟨h.os, h.tape, h.output, h.size, fun k hk hn => h.block k hk fun e => hn (hr k e.symm)⟩
theorem Keep.grownNew {S : Nat → Prop} {a w w' : World} {row : Option Nat} (h : Keep S a w) (hg : w.grownBy w' row) (hr : ∀ k, row = some k → S k ∨ a.heap.size ≤ k) : Keep S a w' :=
  h.trans (T := fun k => row = some k) (Keep.grown hg fun _ e => e) hr
theorem Keep.cell {S : Nat → Prop} {w w' : World} (h : Keep S w w') {p : Addr} {v : Value} (hc : w.cell? p = some v) (hp : ¬ S p.block) : w'.cell? p = some v :=
  (World.cell?_of_block (w := w) (h.block p.block (block_lt_of_cell hc) hp)).trans hc
theorem Keep.blk {S : Nat → Prop} {w w' : World} (h : Keep S w w') {p : Nat} {o : Obj} (hc : w.heap[p]? = some o) (hp : ¬ S p) : w'.heap[p]? = some o :=
  (h.block p (Array.getElem?_eq_some_iff.1 hc).1 hp).trans hc

theorem further {w0 w w' : World} (h : Below w0.heap.size w0 w) (hb : Below w.heap.size w w') : Below w0.heap.size w0 w' := h.trans (hb.mono h.size)

theorem ownsRow_base {w : World} {b b' : Nat} {e : TypeId} {size : Nat} {v : Value} {n : Nat} {xs : List Value} (h : w.ownsRow b e size v n xs) (hb : b' ≤ b) : w.ownsRow b' e size v n xs := by
  refine ⟨h.1, ?_⟩
  rcases h.2 with h' | ⟨g, cap, cur, h1, h2, h3⟩
  · exact .inl h'
  · exact .inr ⟨g, cap, cur, h1, Nat.le_trans hb h2, h3⟩

theorem ownsRow_shape {w : World} {b : Nat} {e : TypeId} {size : Nat} {v : Value} {n : Nat} {xs : List Value} (h : w.ownsRow b e size v n xs) : ∃ a c, v = .slice a n c := by
  rcases h.2 with ⟨rfl, rfl⟩ | ⟨g, cap, cur, h1, h2, h3⟩
  · exact ⟨_, _, rfl⟩
  · exact ⟨_, _, h1⟩

/-- where the row of a slice lies behind an append: where it lay, or in a new block -/
def NewBlk (w : World) (v v' : Value) : Prop := v'.ownBlock = v.ownBlock ∨ ∀ k, v'.ownBlock = some k → w.heap.size ≤ k

/-- append to a row of the call's own -/
theorem wpList_append_own2 {P : Program} {w : World} {ops : Array Oper} {rest : List Oper} {o : Oper} {a : Act} {Q : Exit → Act → World → Prop} (hgd : o.guard = none) (s x : Operand) (t : TypeId)
    (ho : o.op = .call { callee := .builtin .append, args := #[s, x], argTypes := #[t, t] })
    (base : Nat) (e : TypeId) (i : TypeInfo) (z : Value) (size bytes : Nat) (ht : P.underlying t = some (.slice e)) (hi : P.info? e = some i) (hz : i.zero = some z)
    (hsize : i.size = size) (hby : i.bytes = bytes) (hzs : z.cells.size = size) (hsz : 0 < size)
    (v : Value) (n : Nat) (xs : List Value) (hs : a.eval s = v) (hown : w.ownsRow base e size v n xs)
    (ad : Addr) (m c : Nat) (news : List Value) (hx : a.eval x = .slice (some ad) m c) (hl : news.length = m * size) (hnews : ∀ j u, news[j]? = some u → w.cell? (ad.add j) = some u) (h1 : ∀ u ∈ news, u.oneCell' = true)
    (h63 : n + m ≤ maxLen) (hbytes : (n + m) * bytes ≤ 140737488355328) (hbase : base ≤ w.heap.size)
    (h : ∀ v' w', w'.ownsRow base e size v' (n + m) (xs ++ news) → w.grownBy w' v.ownBlock → NewBlk w v v' → wpList P ops Q rest (a.put o.dst v') w') : wpList P ops Q (o :: rest) a w := by
  rcases hown.2 with ⟨rfl, rfl⟩ | ⟨g, cap, cur, rfl, hbg, hg, hnc, hcm, hcs, htake⟩
  · have hxs : xs = [] := List.eq_nil_of_length_eq_zero (by simpa using hown.1)
    subst hxs
    refine wpList_append_own w hgd s x t ho w.heap.size e i z size bytes ht hi hz hsize hby hzs hsz _ 0 [] hs (World.ownsRow_nil w _ e size) ad m c news hx hl hnews h1 h63 hbytes (Nat.le_refl _) ?_
    intro v' w' h2 h3 h4
    exact h v' w' (ownsRow_base h2 hbase) h3 (.inr fun k hk => (h2.lt k hk).1)
  · by_cases hroom : n + m ≤ cap
    · refine wpList_append_fits w hgd s x t ho base e i size ht hi hsize g n cap xs hs hown ad m c news hx hl hnews h1 hroom ?_
      intro w' h2 h3
      exact h _ w' h2 h3 (.inl rfl)
    · refine wpList_append_grows w hgd s x t ho e i z size bytes ht hi hz hsize hby hzs hsz (some ⟨g, 0, none⟩) n cap xs hs (fun e => by cases e) hown.1 (fun b hb => by injection hb with hb; subst hb; exact hown.cells rfl) ad m c news hx hl hnews h1 (by omega) h63 hbytes ?_
      intro v' w' h2 h3
      exact h v' w' (ownsRow_base h2 hbase) ⟨h3.os, h3.tape, h3.output, h3.size, fun k hk _ => h3.block k hk (by simp)⟩ (.inr fun k hk => (h2.lt k hk).1)

/-- the cells of a block -/
theorem cell_blk {w : World} {p : Nat} {cs : Array Value} {t : TypeId} (h : w.heap[p]? = some (.cells cs t (0, 0))) (j : Nat) {v : Value} (hv : cs[j]? = some v) : w.cell? ⟨p, j, none⟩ = some v := by
  rw [World.cell?, h]
  simpa using hv
theorem frozen_blk {w : World} {p : Nat} {cs : Array Value} {t : TypeId} (h : w.heap[p]? = some (.cells cs t (0, 0))) (j : Nat) : w.frozen? ⟨p, j, none⟩ = false := by
  simp [World.frozen?, h]
theorem set_blk {w : World} {p : Nat} {cs : Array Value} {t : TypeId} (h : w.heap[p]? = some (.cells cs t (0, 0))) (j : Nat) (v : Value) : (w.setCell ⟨p, j, none⟩ v).heap[p]? = some (.cells (cs.setIfInBounds j v) t (0, 0)) := by
  simp [World.setCell, Array.getElem?_modify, h]
theorem keep_cell (w : World) (p j : Nat) (v : Value) : Keep (fun k => k = p) w (w.setCell ⟨p, j, none⟩ v) := Keep.setCell (S := fun k => k = p) w (p := ⟨p, j, none⟩) rfl v

/-- a function of numbers, changed at one -/
def upd {α : Type} (f : Int → α) (k : Int) (v : α) : Int → α := fun j => if j = k then v else f j
theorem upd_same {α : Type} (f : Int → α) (k : Int) (v : α) : upd f k v k = v := by simp [upd]
theorem upd_other {α : Type} (f : Int → α) {k j : Int} (v : α) (h : j ≠ k) : upd f k v j = f j := by simp [upd, h]

end Go.Proofs.YtfoahfgehmghcaaGreatDoor

/- Builders: their methods' contracts at this program, out of Join's. -/
namespace Go.Proofs.YtfoahfgehmghcaaGreatDoor
namespace U
open Go.RowKit Go.Shelf

/-- Join's numbering, and WriteByte's number beside it -/
def renB : Ren := ⟨fun | 167 => 59 | n => Tryz.lays156_ren.f n, Tryz.lays156_ren.t, Tryz.lays156_ren.g⟩
set_option maxRecDepth 100000 in
theorem extraB : Builder.Extra Tryz.prog renB where
  sizeBuilder := Tryz.Builder_Extra_156.sizeBuilder
  liesBuilder := Tryz.Builder_Extra_156.liesBuilder
  t5 := Tryz.Builder_Extra_156.t5
  a5 := Tryz.Builder_Extra_156.a5
  z5 := Tryz.Builder_Extra_156.z5
  v5 := Tryz.Builder_Extra_156.v5
  infoByte := Tryz.Builder_Extra_156.infoByte
  cellsByte := Tryz.Builder_Extra_156.cellsByte
  sizeByte := Tryz.Builder_Extra_156.sizeByte
  neB5 := Tryz.Builder_Extra_156.neB5
theorem lays166 : Lays.n166 Tryz.prog Tryz.lays156_ren := { Tryz.lays156 with }
set_option maxRecDepth 100000 in
theorem lays167 : Lays.n167 Tryz.prog renB := { Tryz.lays156 with f167 := Tryz.func59.trans (congrArg some (by kernel_rfl)), t5 := Tryz.Builder_Extra_156.t5, a5 := Tryz.Builder_Extra_156.a5, z5 := Tryz.Builder_Extra_156.z5, v5 := Tryz.Builder_Extra_156.v5 }
/-- a builder, and the bytes that it holds -/
def Bd (w : World) (b : Nat) (l : List UInt8) : Prop := Lib.IsBuilderF 74 5 b b (Lib.byteCells l) w
/-- a frame: all but a builder and rows of bytes -/
def Oth (b : Nat) (w w' : World) : Prop := w.heap.size ≤ w'.heap.size ∧ Lib.OthersKept 5 (some b) w w'
theorem Oth.refl (b : Nat) (w : World) : Oth b w w := ⟨Nat.le_refl _, Lib.OthersKept.refl _ _ _⟩
theorem Oth.trans {b : Nat} {x y z : World} (h : Oth b x y) (k : Oth b y z) : Oth b x z := ⟨Nat.le_trans h.1 k.1, h.2.trans k.2⟩
theorem Oth.below {b : Nat} {x y : World} (h : Below x.heap.size x y) : Oth b x y := ⟨h.size, fun k _ hk _ _ => (h.block k (Array.getElem?_eq_some_iff.1 hk).1).trans hk⟩
theorem Oth.blk {b : Nat} {w w' : World} (h : Oth b w w') {k : Nat} {cs : Array Value} {t : TypeId} {fz : Nat × Nat} (hk : w.heap[k]? = some (.cells cs t fz)) (hb : k ≠ b) (ht : t ≠ 5) : w'.heap[k]? = some (.cells cs t fz) :=
  h.2 k _ hk (fun e => hb (Option.some.inj e)) (fun c fz' e => by injection e with _ e; exact ht e)
theorem Bd.keep {w w' : World} {b : Nat} {l : List UInt8} (h : Bd w b l) (k : Below w.heap.size w w') : Bd w' b l := by
  have key : ∀ p, Lib.BuilderAtF 74 5 b b p (Lib.byteCells l) w → Lib.BuilderAtF 74 5 b b p (Lib.byteCells l) w' := by
    rintro p ⟨h1, v, h2, h3, h4⟩
    refine ⟨h1, v, (k.block b (Array.getElem?_eq_some_iff.1 h2).1).trans h2, ?_, h4⟩
    refine ⟨h3.1, ?_⟩
    rcases h3.2 with h5 | ⟨g, cap, cur, fz, e1, e2, e3, e4⟩
    · exact .inl h5
    · exact .inr ⟨g, cap, cur, fz, e1, e2, (k.block g (Array.getElem?_eq_some_iff.1 e3).1).trans e3, e4⟩
  exact h.imp (key _) (key _)
theorem Bd.lt {w : World} {b : Nat} {l : List UInt8} (h : Bd w b l) : b < w.heap.size := h.elim (fun h => h.lt) (fun h => h.lt)
theorem bd_new (w : World) : Bd (w.alloc (.cells #[.pointer none, .slice none 0 0] 74)) w.heap.size [] :=
  .inl ⟨Nat.le_refl _, _, heap_alloc_new _ _, World.ownsRowF_nil _ _ _ _, by simp [Value.ownBlock]⟩
theorem writeString (b : Nat) (l : List UInt8) (s : ByteArray) (w : World) (h : Bd w b l) (hlen : l.length + s.size ≤ 140737488355328) :
    Calls Tryz.prog 57 #[.pointer (some ⟨b, 0, none⟩), .string s] w fun e w' => e = .returned (.tuple #[.int .i64 s.size, .nilIface]) ∧ Bd w' b (l ++ s.data.toList) ∧ Below b w w' ∧ Oth b w w' := by
  refine (Any.Builder_WriteString_k lays166 Tryz.Builder_Extra_156 b b (Lib.byteCells l) s w h (by rw [Lib.byteCells_length]; exact hlen) (Nat.le_of_lt h.lt)).mono ?_
  rintro e w' ⟨rfl, h1, h2, h3⟩
  refine ⟨rfl, .inr ?_, h2, h2.size, h3⟩
  rw [Lib.byteCells_append, ← Lib.strCells_eq]
  exact h1
theorem writeByte (b : Nat) (l : List UInt8) (c : UInt8) (w : World) (h : Bd w b l) (hlen : l.length + 1 ≤ 140737488355328) :
    Calls Tryz.prog 59 #[.pointer (some ⟨b, 0, none⟩), .int .u8 (c.toNat : Int)] w fun e w' => e = .returned .nilIface ∧ Bd w' b (l ++ [c]) ∧ Below b w w' ∧ Oth b w w' := by
  refine (Any.Builder_WriteByte_k lays167 extraB b b (Lib.byteCells l) (c.toNat : Int) w h (by rw [Lib.byteCells_length]; exact hlen) (Nat.le_of_lt h.lt)).mono ?_
  rintro e w' ⟨rfl, h1, h2, h3⟩
  refine ⟨rfl, .inr ?_, h2, h2.size, h3⟩
  rw [Lib.byteCells_append]
  exact h1
theorem builderString (b : Nat) (l : List UInt8) (w : World) (h : Bd w b l) :
    Calls Tryz.prog 34 #[.pointer (some ⟨b, 0, none⟩)] w fun e w' => e = .returned (.string ⟨l.toArray⟩) ∧ Below b w w' := by
  refine (Any.Builder_String_any_k Tryz.lays169 Tryz.Builder_Extra_169 b b l w h (Nat.le_of_lt h.lt)).mono ?_
  rintro e w' ⟨rfl, h1, h2, h3⟩
  exact ⟨rfl, h2⟩
end U
end Go.Proofs.YtfoahfgehmghcaaGreatDoor

/- Graphs: who waits for whom; the least node of a cycle; orders; who is below. -/
namespace Go.Proofs.YtfoahfgehmghcaaGreatDoor
namespace Gr

/-- a walk of k + 1 steps from a to b -/
def wt (E : Nat → List Nat) : Nat → Nat → Nat → Prop
  | 0, a, b => b ∈ E a
  | k + 1, a, b => ∃ x, x ∈ E a ∧ wt E k x b
/-- a waits for b -/
def Waits (E : Nat → List Nat) (a b : Nat) : Prop := ∃ k, wt E k a b
/-- a walk from a to f of k + 1 steps over greater ones alone -/
def bk (E : Nat → List Nat) (f : Nat) : Nat → Nat → Prop
  | 0, a => f ∈ E a
  | k + 1, a => ∃ x, x ∈ E a ∧ f < x ∧ bk E f k x
def Back (E : Nat → List Nat) (f a : Nat) : Prop := ∃ k, bk E f k a

variable {E : Nat → List Nat}
theorem Waits.edge {a b : Nat} (h : b ∈ E a) : Waits E a b := ⟨0, h⟩
theorem Waits.step {a x b : Nat} (h : x ∈ E a) (k : Waits E x b) : Waits E a b := by obtain ⟨k, hk⟩ := k; exact ⟨k + 1, x, h, hk⟩
theorem Waits.cases {a b : Nat} (h : Waits E a b) : b ∈ E a ∨ ∃ x, x ∈ E a ∧ Waits E x b := by
  obtain ⟨k, hk⟩ := h
  cases k with
  | zero => exact .inl hk
  | succ k => obtain ⟨x, h1, h2⟩ := hk; exact .inr ⟨x, h1, k, h2⟩
theorem wt_trans : ∀ (k : Nat) {a b c : Nat}, wt E k a b → Waits E b c → Waits E a c
  | 0, _, _, _, h, g => Waits.step h g
  | k + 1, _, _, _, ⟨_, h1, h2⟩, g => Waits.step h1 (wt_trans k h2 g)
theorem Waits.trans {a b c : Nat} (h : Waits E a b) (g : Waits E b c) : Waits E a c := by obtain ⟨k, hk⟩ := h; exact wt_trans k hk g
theorem bk_waits : ∀ (k : Nat) {f a : Nat}, bk E f k a → Waits E a f
  | 0, _, _, h => Waits.edge h
  | k + 1, _, _, ⟨_, h1, _, h2⟩ => Waits.step h1 (bk_waits k h2)
theorem Back.waits {f a : Nat} (h : Back E f a) : Waits E a f := by obtain ⟨k, hk⟩ := h; exact bk_waits k hk
theorem Back.step {f a x : Nat} (h : x ∈ E a) (hf : f < x) (g : Back E f x) : Back E f a := by obtain ⟨k, hk⟩ := g; exact ⟨k + 1, x, h, hf, hk⟩
/-- a closed walk whose nodes are not less than its end -/
theorem wt_back {m : Nat} (hm : ∀ x, Waits E x x → m ≤ x) : ∀ (k : Nat) {a : Nat}, wt E k a m → (a = m ∨ Waits E m a) → Back E m a
  | 0, _, h, _ => ⟨0, h⟩
  | k + 1, a, ⟨x, h1, h2⟩, g => by
    have hx : Waits E m x := by
      rcases g with rfl | g
      · exact Waits.edge h1
      · exact g.trans (Waits.edge h1)
    have hl := hm x (Waits.trans ⟨k, h2⟩ hx)
    by_cases e : x = m
    · subst e; exact ⟨0, h1⟩
    · exact Back.step h1 (by omega) (wt_back hm k h2 (.inr hx))
/-- the least that there is -/
theorem least {P : Nat → Prop} : ∀ {n : Nat}, P n → ∃ m, m ≤ n ∧ P m ∧ ∀ x, P x → m ≤ x := by
  intro n
  induction n using Nat.strongRecOn with
  | _ n ih =>
    intro h
    by_cases g : ∃ x, x < n ∧ P x
    · obtain ⟨x, h1, h2⟩ := g
      obtain ⟨m, h3, h4, h5⟩ := ih x h1 h2
      exact ⟨m, by omega, h4, h5⟩
    · exact ⟨n, Nat.le_refl _, h, fun x hx => Nat.le_of_not_lt fun hl => g ⟨x, hl, hx⟩⟩
/-- where some node waits for itself, the least such one does so over greater ones -/
theorem cycle_least {n : Nat} (h : Waits E n n) : ∃ m, m ≤ n ∧ Back E m m ∧ ∀ x, Waits E x x → m ≤ x := by
  obtain ⟨m, h1, ⟨k, h2⟩, h3⟩ := least (P := fun x => Waits E x x) h
  exact ⟨m, h1, wt_back h3 k h2 (.inl rfl), h3⟩

/-- the node that Check tells, from 1 on; 0: none waits for itself -/
def IsCyc (E : Nat → List Nat) (c : Nat) : Prop := (c = 0 ∧ ∀ x, ¬ Waits E x x) ∨ ∃ m, c = m + 1 ∧ Waits E m m ∧ ∀ x, Waits E x x → m ≤ x
theorem IsCyc.uniq {c d : Nat} (h : IsCyc E c) (g : IsCyc E d) : c = d := by
  rcases h with ⟨rfl, h⟩ | ⟨m, rfl, h1, h2⟩ <;> rcases g with ⟨rfl, g⟩ | ⟨k, rfl, g1, g2⟩
  · rfl
  · exact absurd g1 (h k)
  · exact absurd h1 (g m)
  · have := h2 k g1; have := g2 m h1; omega
theorem isCyc_none {n : Nat} (hE : ∀ a, n ≤ a → E a = []) (h : ∀ m, m < n → ¬ Back E m m) : IsCyc E 0 := by
  refine .inl ⟨rfl, fun x hx => ?_⟩
  obtain ⟨m, _, h2, _⟩ := cycle_least hx
  refine h m (Nat.lt_of_not_le fun hl => ?_) h2
  obtain ⟨k, hk⟩ := h2
  cases k with
  | zero => rw [show bk E m 0 m = (m ∈ E m) from rfl, hE m hl] at hk; cases hk
  | succ k => obtain ⟨x, hx, _⟩ := hk; rw [hE m hl] at hx; cases hx
theorem isCyc_some {f : Nat} (h : ∀ m, m < f → ¬ Back E m m) (hf : Back E f f) : IsCyc E (f + 1) := by
  refine .inr ⟨f, rfl, hf.waits, fun x hx => Nat.le_of_not_lt fun hl => ?_⟩
  obtain ⟨m, h1, h2, _⟩ := cycle_least hx
  exact h m (by omega) h2

/-- what a search below a node leaves: S: seen ahead, T: seen behind -/
structure Srch (E : Nat → List Nat) (f : Nat) (S T : Nat → Prop) (xs : List Nat) (r : Bool) : Prop where
  mono : ∀ x, S x → T x
  yes : r = true → ∃ x, x ∈ xs ∧ (x = f ∨ f < x ∧ Back E f x)
  no : r = false → (∀ x, x ∈ xs → x ≠ f ∧ (f < x → T x)) ∧ ∀ x, T x → ¬ S x → ∀ y, y ∈ E x → y ≠ f ∧ (f < y → T y)
theorem Srch.nil (f : Nat) (S : Nat → Prop) : Srch E f S S [] false := ⟨fun _ h => h, (fun h => by cases h), fun _ => ⟨(fun x h => by cases h), fun x h g => absurd h g⟩⟩
theorem Srch.hit {f x : Nat} {S T : Nat → Prop} {xs : List Nat} (hm : ∀ x, S x → T x) (hx : x ∈ xs) (h : x = f ∨ f < x ∧ Back E f x) : Srch E f S T xs true := ⟨hm, fun _ => ⟨x, hx, h⟩, fun h => by cases h⟩
/-- one after the other -/
theorem Srch.app {f : Nat} {S T U : Nat → Prop} {xs ys : List Nat} {r : Bool} (h : Srch E f S T xs false) (g : Srch E f T U ys r) : Srch E f S U (xs ++ ys) r := by
  refine ⟨fun x hx => g.mono x (h.mono x hx), fun hr => ?_, fun hr => ?_⟩
  · obtain ⟨x, h1, h2⟩ := g.yes hr
    exact ⟨x, List.mem_append.2 (.inr h1), h2⟩
  · obtain ⟨h1, h2⟩ := h.no rfl
    obtain ⟨g1, g2⟩ := g.no hr
    refine ⟨fun x hx => ?_, fun x hx hs y hy => ?_⟩
    · rcases List.mem_append.1 hx with hx | hx
      · exact ⟨(h1 x hx).1, fun hf => g.mono x ((h1 x hx).2 hf)⟩
      · exact g1 x hx
    · rcases Classical.em (T x) with ht | ht
      · exact ⟨(h2 x ht hs y hy).1, fun hf => g.mono y ((h2 x ht hs y hy).2 hf)⟩
      · exact g2 x hx ht y hy
theorem Srch.yesL {f : Nat} {S T : Nat → Prop} {xs : List Nat} (ys : List Nat) (h : Srch E f S T xs true) : Srch E f S T (xs ++ ys) true := by
  obtain ⟨x, h1, h2⟩ := h.yes rfl
  exact ⟨h.mono, fun _ => ⟨x, List.mem_append.2 (.inl h1), h2⟩, fun e => by cases e⟩
/-- a node that is new: it is marked, then its edges are gone through -/
theorem Srch.down {f x : Nat} {S S' T : Nat → Prop} {r : Bool} (hS : ∀ y, S' y ↔ S y ∨ y = x) (hf : f < x) (h : Srch E f S' T (E x) r) : Srch E f S T [x] r := by
  refine ⟨fun y hy => h.mono y ((hS y).2 (.inl hy)), fun hr => ?_, fun hr => ?_⟩
  · obtain ⟨y, h1, h2⟩ := h.yes hr
    refine ⟨x, List.mem_singleton.2 rfl, .inr ⟨hf, ?_⟩⟩
    rcases h2 with rfl | ⟨h2, h3⟩
    · exact ⟨0, h1⟩
    · exact Back.step h1 h2 h3
  · obtain ⟨h1, h2⟩ := h.no hr
    refine ⟨fun y hy => ?_, fun y hy hs z hz => ?_⟩
    · rw [List.mem_singleton.1 hy]
      exact ⟨by omega, fun _ => h.mono x ((hS x).2 (.inr rfl))⟩
    · by_cases e : y = x
      · subst e; exact h1 z hz
      · exact h2 y hy (fun g => by rcases (hS y).1 g with g | g <;> contradiction) z hz
/-- one that is known -/
theorem Srch.known {f x : Nat} {S : Nat → Prop} (h : x ≤ f ∨ S x) (hx : x ≠ f) : Srch E f S S [x] false :=
  ⟨fun _ h => h, (fun h => by cases h), fun _ => ⟨fun y hy => by rw [List.mem_singleton.1 hy]; exact ⟨hx, fun hf => h.elim (fun g => absurd hf (by omega)) id⟩, fun y hy hs => absurd hy hs⟩⟩
/-- the whole search -/
theorem Srch.whole {f : Nat} {S T : Nat → Prop} {r : Bool} (h : Srch E f S T (E f) r) (hS : ∀ x, ¬ S x) : r = true ↔ Back E f f := by
  constructor
  · intro hr
    obtain ⟨x, h1, h2⟩ := h.yes hr
    rcases h2 with rfl | ⟨h2, h3⟩
    · exact ⟨0, h1⟩
    · exact Back.step h1 h2 h3
  · rintro ⟨k, hk⟩
    cases r with
    | true => rfl
    | false =>
      obtain ⟨h1, h2⟩ := h.no rfl
      have key : ∀ (k a : Nat), (∀ y, y ∈ E a → y ≠ f ∧ (f < y → T y)) → ¬ bk E f k a := by
        intro k
        induction k with
        | zero => intro a ha hb; exact (ha f hb).1 rfl
        | succ k ih =>
          rintro a ha ⟨x, g1, g2, g3⟩
          exact ih x (h2 x ((ha x g1).2 g2) (hS x)) g3
      exact absurd hk (key k f h1)
end Gr
end Go.Proofs.YtfoahfgehmghcaaGreatDoor

/- Chapter 10: nodes and lists of numbers in memory. -/
namespace Go.Proofs.YtfoahfgehmghcaaGreatDoor
namespace Gr
open Go.RowKit

/-- a node, as its cells -/
structure Nd where
  nm : ByteArray
  la : Int
  bu : Int
  cl : Int
  be : Int
  ba : Int
  ca : Int
  ji : Int
  ne : Option Addr × Nat × Nat
  af : Option Addr × Nat × Nat
def Nd.row (q : Nd) : List Value := [.string q.nm, .int .i64 q.la, .int .i64 q.bu, .int .i64 q.cl, .int .i64 q.be, .int .i64 q.ba, .int .i64 q.ca, .int .i64 q.ji, .slice q.ne.1 q.ne.2.1 q.ne.2.2, .slice q.af.1 q.af.2.1 q.af.2.2]
/-- a node, and the numbers of its lists -/
structure No where
  q : Nd
  nl : List Int
  al : List Int

/-- a node in memory -/
def NodeAt (w : World) (B o : Nat) (q : Nd) : Prop := ∀ j v, q.row[j]? = some v → w.cell? ⟨B, o + j, none⟩ = some v
theorem NodeAt.keep {w w' : World} {B o : Nat} {q : Nd} {S : Nat → Prop} (h : NodeAt w B o q) (k : Keep S w w') (hB : ¬ S B) : NodeAt w' B o q := fun j v hv => k.cell (h j v hv) hB
theorem NodeAt.new (w : World) (q : Nd) (t : TypeId) : NodeAt (w.alloc (.cells q.row.toArray t)) w.heap.size 0 q :=
  fun j v hv => by rw [Nat.zero_add, World.cell?_alloc_mark]; simpa using hv
theorem NodeAt.all {w : World} {B o : Nat} {q : Nd} (h : NodeAt w B o q) : w.cell? ⟨B, o, none⟩ = some (.string q.nm) ∧ w.cell? ⟨B, o + 1, none⟩ = some (.int .i64 q.la) ∧ w.cell? ⟨B, o + 2, none⟩ = some (.int .i64 q.bu) ∧ w.cell? ⟨B, o + 3, none⟩ = some (.int .i64 q.cl) ∧ w.cell? ⟨B, o + 4, none⟩ = some (.int .i64 q.be) ∧ w.cell? ⟨B, o + 5, none⟩ = some (.int .i64 q.ba) ∧ w.cell? ⟨B, o + 6, none⟩ = some (.int .i64 q.ca) ∧ w.cell? ⟨B, o + 7, none⟩ = some (.int .i64 q.ji) ∧ w.cell? ⟨B, o + 8, none⟩ = some (.slice q.ne.1 q.ne.2.1 q.ne.2.2) ∧ w.cell? ⟨B, o + 9, none⟩ = some (.slice q.af.1 q.af.2.1 q.af.2.2) :=
  ⟨h 0 _ rfl, h 1 _ rfl, h 2 _ rfl, h 3 _ rfl, h 4 _ rfl, h 5 _ rfl, h 6 _ rfl, h 7 _ rfl, h 8 _ rfl, h 9 _ rfl⟩

/-- a list of numbers in memory, below block B -/
def RdZ (B : Nat) (w : World) (s : Option Addr × Nat × Nat) (z : List Int) : Prop :=
  s.2.1 = z.length ∧ s.2.1 ≤ 17592186044416 ∧ (s.2.1 = 0 ∨ ∃ g off, s.1 = some ⟨g, off, none⟩ ∧ g < B ∧ ∀ j x, z[j]? = some x → w.cell? ⟨g, off + j, none⟩ = some (.int .i64 x))
theorem RdZ.keep {B : Nat} {w w' : World} {s : Option Addr × Nat × Nat} {z : List Int} {S : Nat → Prop} (h : RdZ B w s z) (k : Keep S w w') (hS : ∀ i, S i → B ≤ i) : RdZ B w' s z := by
  obtain ⟨h1, h2, h3⟩ := h
  refine ⟨h1, h2, ?_⟩
  rcases h3 with h3 | ⟨g, off, e, hg, h3⟩
  · exact .inl h3
  · exact .inr ⟨g, off, e, hg, fun j x hj => k.cell (h3 j x hj) fun hs => by have := hS _ hs; simp at this; omega⟩
theorem RdZ.mono {B C : Nat} {w : World} {s : Option Addr × Nat × Nat} {z : List Int} (h : RdZ B w s z) (hC : B ≤ C) : RdZ C w s z := by
  obtain ⟨h1, h2, h3⟩ := h
  refine ⟨h1, h2, ?_⟩
  rcases h3 with h3 | ⟨g, off, e, hg, h3⟩
  · exact .inl h3
  · exact .inr ⟨g, off, e, by omega, h3⟩
/-- a row of nodes in memory, with their lists, below block B -/
def RdP (B : Nat) (w : World) (s : Option Addr × Nat × Nat) (xs : List No) : Prop :=
  s.2.1 = xs.length ∧ s.2.1 ≤ 1172812402926 ∧ (s.2.1 = 0 ∨ ∃ g off, s.1 = some ⟨g, off, none⟩ ∧ g < B ∧ ∀ i x, xs[i]? = some x → NodeAt w g (off + i * 10) x.q) ∧ ∀ x ∈ xs, RdZ B w x.q.ne x.nl ∧ RdZ B w x.q.af x.al
theorem RdP.keep {B : Nat} {w w' : World} {s : Option Addr × Nat × Nat} {xs : List No} {S : Nat → Prop} (h : RdP B w s xs) (k : Keep S w w') (hS : ∀ i, S i → B ≤ i) : RdP B w' s xs := by
  obtain ⟨h1, h2, h3, h4⟩ := h
  refine ⟨h1, h2, ?_, fun x hx => ⟨(h4 x hx).1.keep k hS, (h4 x hx).2.keep k hS⟩⟩
  rcases h3 with h3 | ⟨g, off, e, hg, h3⟩
  · exact .inl h3
  · exact .inr ⟨g, off, e, hg, fun i x hx => (h3 i x hx).keep k fun hs => by have := hS _ hs; omega⟩
theorem RdP.mono {B C : Nat} {w : World} {s : Option Addr × Nat × Nat} {xs : List No} (h : RdP B w s xs) (hC : B ≤ C) : RdP C w s xs := by
  obtain ⟨h1, h2, h3, h4⟩ := h
  refine ⟨h1, h2, ?_, fun x hx => ⟨(h4 x hx).1.mono hC, (h4 x hx).2.mono hC⟩⟩
  rcases h3 with h3 | ⟨g, off, e, hg, h3⟩
  · exact .inl h3
  · exact .inr ⟨g, off, e, by omega, h3⟩
theorem RdP.new {B : Nat} {w w' : World} {s : Option Addr × Nat × Nat} {xs : List No} (h : RdP B w s xs) (k : Keep (fun _ => False) w w') : RdP B w' s xs := h.keep k fun _ f => f.elim
theorem RdZ.new {B : Nat} {w w' : World} {s : Option Addr × Nat × Nat} {z : List Int} (h : RdZ B w s z) (k : Keep (fun _ => False) w w') : RdZ B w' s z := h.keep k fun _ f => f.elim
/-- one node of the row -/
theorem RdP.at {B : Nat} {w : World} {s : Option Addr × Nat × Nat} {xs : List No} (h : RdP B w s xs) {i : Nat} (hi : i < s.2.1) : ∃ g off x, s.1 = some ⟨g, off, none⟩ ∧ g < B ∧ xs[i]? = some x ∧ NodeAt w g (off + i * 10) x.q ∧ RdZ B w x.q.ne x.nl ∧ RdZ B w x.q.af x.al := by
  obtain ⟨h1, h2, h3, h4⟩ := h
  obtain ⟨g, off, e, hg, h3⟩ := h3.resolve_left (by omega)
  have hx : xs[i]? = some (xs[i]'(by omega)) := List.getElem?_eq_getElem _
  exact ⟨g, off, _, e, hg, hx, h3 i _ hx, h4 _ (List.mem_of_getElem? hx)⟩
theorem RdZ.at {B : Nat} {w : World} {s : Option Addr × Nat × Nat} {z : List Int} (h : RdZ B w s z) {i : Nat} (hi : i < s.2.1) : ∃ g off x, s.1 = some ⟨g, off, none⟩ ∧ g < B ∧ z[i]? = some x ∧ w.cell? ⟨g, off + i, none⟩ = some (.int .i64 x) := by
  obtain ⟨h1, h2, h3⟩ := h
  obtain ⟨g, off, e, hg, h3⟩ := h3.resolve_left (by omega)
  have hx : z[i]? = some (z[i]'(by omega)) := List.getElem?_eq_getElem _
  exact ⟨g, off, _, e, hg, hx, h3 i _ hx⟩
theorem take_snoc {α : Type} (z : List α) (i : Nat) (x : α) (h : z[i]? = some x) : z.take (i + 1) = z.take i ++ [x] := by
  rw [List.take_add_one, h]; rfl

/- which plans may be -/
def wI (n a b : Int) : Bool := decide (a ≤ n) && decide (n ≤ b)
def inNm (b : UInt8) : Bool := decide (97 ≤ b.toNat) && decide (b.toNat ≤ 122) || decide (48 ≤ b.toNat) && decide (b.toNat ≤ 57) || decide (b.toNat = 45) || decide (b.toNat = 95) || decide (b.toNat = 46)
def isNm (s : ByteArray) : Bool := wI s.size 1 40 && s.data.toList.all inNm
def lOk (ah : Int) (z : List Int) (own cnt : Int) : Bool := match z with
  | [] => true
  | x :: z => !(decide (x ≤ ah) || decide (cnt ≤ x) || decide (x = own)) && lOk x z own cnt
def fOk (q : Nd) : Bool := wI q.la 0 15 && wI q.bu 1 100 && wI q.cl 1 1099511627776 && wI q.be 0 1099511627776 && wI q.ca 1 1099511627776 && wI q.ba 1 q.ca && wI q.ji 0 1099511627776
def eOk (x : No) (own cnt : Int) : Bool := lOk (-1) x.nl own cnt && lOk (-1) x.al own cnt && !(x.al.any fun e => x.nl.contains e)
def edges (xs : List No) : Nat := (xs.map fun x => x.nl.length + x.al.length).sum
end Gr
end Go.Proofs.YtfoahfgehmghcaaGreatDoor
