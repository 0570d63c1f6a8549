import Derived.Shelf.Strings.Builder1
import Derived.Shelf.Strings.Builder2
import Derived.Shelf.Strings.OnBuilder
import Derived.Shelf.Small.Wraps
import Derived.Shelf.Strconv.Itoa0
import Derived.Shelf.Strconv.Itoa1
import Derived.Shelf.LaysM
import Derived.Shelf.Strconv.Itoa2
import Derived.Shelf.Strconv.Itoa3
import Derived.Shelf.Strconv.Clone
import Derived.Shelf.Strconv.SyntaxError
import Derived.Shelf.LaysC
import Derived.Shelf.Strconv.ToError
import Derived.Shelf.Strconv.RangeError
import Derived.Shelf.Strconv.ToErrorRange
import Derived.Shelf.Strings.Search1
import Derived.Shelf.Strings.Search2
import Derived.Shelf.Strings.Cut
import Derived.Shelf.Strconv.AppendUint10
import Derived.Shelf.Strconv.AppendInt10
import Derived.Shelf.Strings.Prefix
import Derived.Ground.Names2Prog
import Derived.Shelf.Slices.ReverseS
import Derived.Shelf.Slices.Cells
import Derived.Test.YtklipelnjgpnjaaGreatDoorProg
import Derived.Test.YtklipelnjgpnjaaGreatDoorLotN15
import Derived.Test.YtklipelnjgpnjaaGreatDoorLotN1
import Derived.Lib.LaidTab
import Derived.Shelf.Vars
import Derived.Lib.OwnKind
import Derived.RangeFuncNested
import Derived.RangeFuncBound
import Derived.RangeFuncCalls
import Derived.RangeFuncLeaves
import Derived.RangeFuncBox
import Derived.Shelf.Abstract
import Derived.Shelf.RegionOpen
import Derived.WalkKit
import Derived.OwnWalkIn
import Derived.TacticsInMore
import Derived.LoopNIn
import Derived.LoopIn
import Derived.Test.YtklipelnjgpnjaaGreatDoorLotN2
set_option maxHeartbeats 64000000
set_option maxRecDepth 100000
namespace Go.Proofs
open Go.Shelf
def Tryz.lays170_ren : Go.Shelf.Ren := ⟨fun | 170 => 164 | n => n, fun | 70 => 148 | 3 => 3 | 0 => 0 | 72 => 150 | 37 => 115 | 5 => 5 | n => n, fun | n => n⟩
theorem Tryz.lays170 : Go.Proofs.Lays.n170 Tryz.prog Tryz.lays170_ren := {
 mixed := by kernel_rfl
 f170 := Tryz.func164.trans (congrArg some (by kernel_rfl))
 t0 := Tryz.underlying0
 a0 := Tryz.isAgg0
 z0 := Tryz.sizeOf0
 v0 := Tryz.zeroValue0
 t3 := Tryz.underlying3
 a3 := Tryz.isAgg3
 z3 := Tryz.sizeOf3
 v3 := Tryz.zeroValue3
 t37 := Tryz.underlying115
 a37 := Tryz.isAgg115
 z37 := Tryz.sizeOf115
 v37 := Tryz.zeroValue115
 t70 := Tryz.underlying148
 a70 := Tryz.isAgg148
 z70 := Tryz.sizeOf148
 v70 := Tryz.zeroValue148
 t72 := Tryz.underlying150
 a72 := Tryz.isAgg150
 z72 := Tryz.sizeOf150
 v72 := Tryz.zeroValue150 }
open Go.RowKit in
theorem Tryz.Builder_Len (B b : Nat) (bs : List Value) (w : World) (h : Lib.IsBuilder 150 5 B b bs w) :
  Calls Tryz.prog 164 #[.pointer (some ⟨b, 0, none⟩)] w fun e w' => e = .returned (.int .i64 bs.length) ∧ w' = w := Any.Builder_Len Tryz.lays170 B b bs w h
def Tryz.lays169_ren : Go.Shelf.Ren := ⟨fun | 169 => 142 | n => n, fun | 70 => 148 | 9 => 9 | 0 => 0 | 72 => 150 | 37 => 115 | 127 => 170 | 3 => 3 | 5 => 5 | n => n, fun | n => n⟩
theorem Tryz.lays169 : Go.Proofs.Lays.n169 Tryz.prog Tryz.lays169_ren := {
 mixed := by kernel_rfl
 f169 := Tryz.func142.trans (congrArg some (by kernel_rfl))
 t0 := Tryz.underlying0
 a0 := Tryz.isAgg0
 z0 := Tryz.sizeOf0
 v0 := Tryz.zeroValue0
 t3 := Tryz.underlying3
 a3 := Tryz.isAgg3
 z3 := Tryz.sizeOf3
 v3 := Tryz.zeroValue3
 t9 := Tryz.underlying9
 a9 := Tryz.isAgg9
 z9 := Tryz.sizeOf9
 v9 := Tryz.zeroValue9
 t37 := Tryz.underlying115
 a37 := Tryz.isAgg115
 z37 := Tryz.sizeOf115
 v37 := Tryz.zeroValue115
 t70 := Tryz.underlying148
 a70 := Tryz.isAgg148
 z70 := Tryz.sizeOf148
 v70 := Tryz.zeroValue148
 t72 := Tryz.underlying150
 a72 := Tryz.isAgg150
 z72 := Tryz.sizeOf150
 v72 := Tryz.zeroValue150
 t127 := Tryz.underlying170
 a127 := Tryz.isAgg170
 z127 := Tryz.sizeOf170
 v127 := Tryz.zeroValue170 }
theorem Tryz.Builder_Extra_169 : Builder.Extra Tryz.prog Tryz.lays169_ren := {
 sizeBuilder := by kernel_rfl
 liesBuilder := by kernel_rfl
 t5 := Tryz.underlying5
 a5 := Tryz.isAgg5
 z5 := Tryz.sizeOf5
 v5 := Tryz.zeroValue5
 infoByte := by kernel_rfl
 cellsByte := by kernel_rfl
 sizeByte := by kernel_rfl
 neB5 := by decide }
open Go.RowKit in
theorem Tryz.Builder_String_any (B b : Nat) (l : List UInt8) (w : World) (h : Lib.IsBuilder 150 5 B b (Lib.byteCells l) w) (hBw : B ≤ w.heap.size) :
  Calls Tryz.prog 142 #[.pointer (some ⟨b, 0, none⟩)] w fun e w' => e = .returned (.string ⟨l.toArray⟩) ∧ Below B w w' := Any.Builder_String_any Tryz.lays169 Tryz.Builder_Extra_169 B b l w h hBw
def Tryz.lays156_ren : Go.Shelf.Ren := ⟨fun | 156 => 105 | 165 => 140 | 166 => 141 | 169 => 142 | 240 => 168 | 241 => 169 | 276 => 186 | 277 => 187 | n => n, fun | 31 => 82 | 9 => 9 | 3 => 3 | 4 => 4 | 0 => 0 | 20 => 20 | 72 => 150 | 76 => 153 | 70 => 148 | 37 => 115 | 75 => 152 | 127 => 170 | 164 => 186 | 5 => 5 | 80 => 89 | n => n, fun | n => n⟩
theorem Tryz.lays156 : Go.Proofs.Lays.n156 Tryz.prog Tryz.lays156_ren := {
 mixed := by kernel_rfl
 f156 := Tryz.func105.trans (congrArg some (by kernel_rfl))
 f165 := Tryz.func140.trans (congrArg some (by kernel_rfl))
 f166 := Tryz.func141.trans (congrArg some (by kernel_rfl))
 f169 := Tryz.func142.trans (congrArg some (by kernel_rfl))
 f240 := Tryz.func168.trans (congrArg some (by kernel_rfl))
 f241 := Tryz.func169.trans (congrArg some (by kernel_rfl))
 f276 := Tryz.func186.trans (congrArg some (by kernel_rfl))
 f277 := Tryz.func187.trans (congrArg some (by kernel_rfl))
 t0 := Tryz.underlying0
 a0 := Tryz.isAgg0
 z0 := Tryz.sizeOf0
 v0 := Tryz.zeroValue0
 t3 := Tryz.underlying3
 a3 := Tryz.isAgg3
 z3 := Tryz.sizeOf3
 v3 := Tryz.zeroValue3
 t4 := Tryz.underlying4
 a4 := Tryz.isAgg4
 z4 := Tryz.sizeOf4
 v4 := Tryz.zeroValue4
 t9 := Tryz.underlying9
 a9 := Tryz.isAgg9
 z9 := Tryz.sizeOf9
 v9 := Tryz.zeroValue9
 t20 := Tryz.underlying20
 a20 := Tryz.isAgg20
 z20 := Tryz.sizeOf20
 v20 := Tryz.zeroValue20
 t31 := Tryz.underlying82
 a31 := Tryz.isAgg82
 z31 := Tryz.sizeOf82
 v31 := Tryz.zeroValue82
 t37 := Tryz.underlying115
 a37 := Tryz.isAgg115
 z37 := Tryz.sizeOf115
 v37 := Tryz.zeroValue115
 t70 := Tryz.underlying148
 a70 := Tryz.isAgg148
 z70 := Tryz.sizeOf148
 v70 := Tryz.zeroValue148
 t72 := Tryz.underlying150
 a72 := Tryz.isAgg150
 z72 := Tryz.sizeOf150
 v72 := Tryz.zeroValue150
 t75 := Tryz.underlying152
 a75 := Tryz.isAgg152
 z75 := Tryz.sizeOf152
 v75 := Tryz.zeroValue152
 t76 := Tryz.underlying153
 a76 := Tryz.isAgg153
 z76 := Tryz.sizeOf153
 v76 := Tryz.zeroValue153
 t127 := Tryz.underlying170
 a127 := Tryz.isAgg170
 z127 := Tryz.sizeOf170
 v127 := Tryz.zeroValue170
 t164 := Tryz.underlying186
 a164 := Tryz.isAgg186
 z164 := Tryz.sizeOf186
 v164 := Tryz.zeroValue186 }
theorem Tryz.Builder_Extra_156 : Builder.Extra Tryz.prog Tryz.lays156_ren := {
 sizeBuilder := by kernel_rfl
 liesBuilder := by kernel_rfl
 t5 := Tryz.underlying5
 a5 := Tryz.isAgg5
 z5 := Tryz.sizeOf5
 v5 := Tryz.zeroValue5
 infoByte := by kernel_rfl
 cellsByte := by kernel_rfl
 sizeByte := by kernel_rfl
 neB5 := by decide }
open Go.RowKit in
open Go.RowKit in
theorem Tryz.strings_Join (bk o c : Nat) (xs : List ByteArray) (sep : ByteArray) (w : World) (hcells : ∀ (j : Nat) x, xs[j]? = some x → w.cell? ⟨bk, o + j, none⟩ = some (.string x)) (hbk : bk < w.heap.size) (hN : xs.length ≤ 140737488355328) (hcap : xs.length ≤ c) (hlen : (Lib.join (xs.map (·.data.toList)) sep.data.toList).length ≤ 140737488355328) :
  Calls Tryz.prog 105 #[.slice (some ⟨bk, o, none⟩) xs.length c, .string sep] w fun e w' => e = .returned (.string ⟨(Lib.join (xs.map (·.data.toList)) sep.data.toList).toArray⟩) ∧ Below w.heap.size w w' := Any.strings_Join Tryz.lays156 Tryz.Builder_Extra_156 bk o c xs sep w hcells hbk hN hcap hlen
def Tryz.lays103_ren : Go.Shelf.Ren := ⟨fun | 103 => 147 | 210 => 170 | 206 => 188 | n => n, fun | 9 => 9 | 4 => 4 | 24 => 157 | 3 => 3 | n => n, fun | n => n⟩
theorem Tryz.lays103 : Go.Proofs.Lays.n103 Tryz.prog Tryz.lays103_ren := {
 mixed := by kernel_rfl
 f103 := Tryz.func147.trans (congrArg some (by kernel_rfl))
 f206 := Tryz.func188.trans (congrArg some (by kernel_rfl))
 f210 := Tryz.func170.trans (congrArg some (by kernel_rfl))
 t3 := Tryz.underlying3
 a3 := Tryz.isAgg3
 z3 := Tryz.sizeOf3
 v3 := Tryz.zeroValue3
 t4 := Tryz.underlying4
 a4 := Tryz.isAgg4
 z4 := Tryz.sizeOf4
 v4 := Tryz.zeroValue4
 t9 := Tryz.underlying9
 a9 := Tryz.isAgg9
 z9 := Tryz.sizeOf9
 v9 := Tryz.zeroValue9
 t24 := Tryz.underlying157
 a24 := Tryz.isAgg157
 z24 := Tryz.sizeOf157
 v24 := Tryz.zeroValue157 }
open Go.RowKit in
theorem Tryz.strings_CutPrefix (s p : ByteArray) (w : World) :
  Calls Tryz.prog 147 #[.string s, .string p] w fun e w' => e = .returned (.tuple #[.string ⟨(Lib.trimPrefix s.data.toList p.data.toList).toArray⟩, .bool (Lib.hasPrefix s.data.toList p.data.toList)]) ∧ w' = w := Any.strings_CutPrefix Tryz.lays103 s p w
def Tryz.lays283_ren : Go.Shelf.Ren := ⟨fun | 283 => 199 | n => n, fun | 3 => 3 | 9 => 9 | 4 => 4 | n => n, fun | n => n⟩
theorem Tryz.lays283 : Go.Proofs.Lays.n283 Tryz.prog Tryz.lays283_ren := {
 mixed := by kernel_rfl
 f283 := Tryz.func199.trans (congrArg some (by kernel_rfl))
 t3 := Tryz.underlying3
 a3 := Tryz.isAgg3
 z3 := Tryz.sizeOf3
 v3 := Tryz.zeroValue3
 t4 := Tryz.underlying4
 a4 := Tryz.isAgg4
 z4 := Tryz.sizeOf4
 v4 := Tryz.zeroValue4
 t9 := Tryz.underlying9
 a9 := Tryz.isAgg9
 z9 := Tryz.sizeOf9
 v9 := Tryz.zeroValue9 }
open Go.Lib in
theorem Tryz.internal_strconv_small (i : Nat) (h : i < 100) (w : World) :
  Calls Tryz.prog 199 #[.int .i64 i] w fun e w' => e = .returned (.string ⟨(Lib.decDigits i).toArray⟩) ∧ w' = w := Any.internal_strconv_small Tryz.lays283 i h w
def Tryz.laysM284_ren : Go.Shelf.Ren := ⟨fun | 284 => 200 | 129 => 209 | 317 => 208 | 318 => 210 | n => n, fun | 53 => 159 | 3 => 3 | 212 => 210 | 0 => 0 | 4 => 4 | 46 => 180 | 5 => 5 | 9 => 9 | n => n, fun | 17 => 4 | n => n⟩
theorem Tryz.laysM284 : Go.Proofs.LaysM.n284 Tryz.prog Tryz.laysM284_ren := {
 mixed := by kernel_rfl
 f129 := Tryz.func209.trans (congrArg some (by kernel_rfl))
 f284 := Tryz.func200.trans (congrArg some (by kernel_rfl))
 f317 := Tryz.func208.trans (congrArg some (by kernel_rfl))
 f318 := Tryz.func210.trans (congrArg some (by kernel_rfl))
 t0 := Tryz.underlying0
 a0 := Tryz.isAgg0
 z0 := Tryz.sizeOf0
 v0 := Tryz.zeroValue0
 t3 := Tryz.underlying3
 a3 := Tryz.isAgg3
 z3 := Tryz.sizeOf3
 v3 := Tryz.zeroValue3
 t4 := Tryz.underlying4
 a4 := Tryz.isAgg4
 z4 := Tryz.sizeOf4
 v4 := Tryz.zeroValue4
 t5 := Tryz.underlying5
 a5 := Tryz.isAgg5
 z5 := Tryz.sizeOf5
 v5 := Tryz.zeroValue5
 t9 := Tryz.underlying9
 a9 := Tryz.isAgg9
 z9 := Tryz.sizeOf9
 v9 := Tryz.zeroValue9
 t46 := Tryz.underlying180
 a46 := Tryz.isAgg180
 z46 := Tryz.sizeOf180
 v46 := Tryz.zeroValue180
 t53 := Tryz.underlying159
 a53 := Tryz.isAgg159
 z53 := Tryz.sizeOf159
 v53 := Tryz.zeroValue159
 t212 := Tryz.underlying210
 a212 := Tryz.isAgg210
 z212 := Tryz.sizeOf210
 v212 := Tryz.zeroValue210
 g17 := by kernel_rfl
 i0 := by kernel_rfl
 i3 := by kernel_rfl
 i4 := by kernel_rfl
 i5 := by kernel_rfl
 i9 := by kernel_rfl
 i46 := by kernel_rfl
 i53 := by kernel_rfl
 i212 := by kernel_rfl
 m17 := by kernel_rfl }
open Go.Lib in
theorem Tryz.internal_strconv_numDigits (u : Nat) (h1 : 1 ≤ u) (h2 : u < 18446744073709551616) (w : World) (htab : Lib.TabIs Tryz.prog w "internal/strconv.uint64pow10" .u64 Lib.pow10Tab) :
  Calls Tryz.prog 200 #[.int .u64 u] w fun e w' => e = .returned (.int .i64 (Lib.nDigits u)) ∧ w' = w := Any.internal_strconv_numDigits Tryz.laysM284 u h1 h2 w htab
def Tryz.lays285_ren : Go.Shelf.Ren := ⟨fun | 285 => 201 | n => n, fun | 37 => 115 | 53 => 159 | 3 => 3 | 4 => 4 | 51 => 40 | 9 => 9 | 5 => 5 | 0 => 0 | n => n, fun | n => n⟩
theorem Tryz.lays285 : Go.Proofs.Lays.n285 Tryz.prog Tryz.lays285_ren := {
 mixed := by kernel_rfl
 f285 := Tryz.func201.trans (congrArg some (by kernel_rfl))
 t0 := Tryz.underlying0
 a0 := Tryz.isAgg0
 z0 := Tryz.sizeOf0
 v0 := Tryz.zeroValue0
 t3 := Tryz.underlying3
 a3 := Tryz.isAgg3
 z3 := Tryz.sizeOf3
 v3 := Tryz.zeroValue3
 t4 := Tryz.underlying4
 a4 := Tryz.isAgg4
 z4 := Tryz.sizeOf4
 v4 := Tryz.zeroValue4
 t5 := Tryz.underlying5
 a5 := Tryz.isAgg5
 z5 := Tryz.sizeOf5
 v5 := Tryz.zeroValue5
 t9 := Tryz.underlying9
 a9 := Tryz.isAgg9
 z9 := Tryz.sizeOf9
 v9 := Tryz.zeroValue9
 t37 := Tryz.underlying115
 a37 := Tryz.isAgg115
 z37 := Tryz.sizeOf115
 v37 := Tryz.zeroValue115
 t51 := Tryz.underlying40
 a51 := Tryz.isAgg40
 z51 := Tryz.sizeOf40
 v51 := Tryz.zeroValue40
 t53 := Tryz.underlying159
 a53 := Tryz.isAgg159
 z53 := Tryz.sizeOf159
 v53 := Tryz.zeroValue159 }
open Go.RowKit Go.Sort Go.Lib in
theorem Tryz.internal_strconv_formatBase10 (blk off cap : Nat) (u : Nat) (d : Array UInt8) (w : World) (hH : Holds (fun (b : UInt8) => Value.int .u8 (b.toNat : Int)) w blk off d) (hu : u < 10 ^ d.size) (hu64 : u < 18446744073709551616) (hsz : d.size < 4611686018427387904) :
  Calls Tryz.prog 201 #[.slice (some ⟨blk, off, none⟩) d.size cap, .int .u64 u] w fun e w' =>
   e = .returned (.tuple #[]) ∧ ∃ (n v' : Nat) (dk : Array UInt8), w' = (putRow (fun (b : UInt8) => Value.int .u8 (b.toNat : Int)) w blk off dk).drewN n ∧ FmtInv d.size u 0 v' dk := Any.internal_strconv_formatBase10 Tryz.lays285 blk off cap u d w hH hu hu64 hsz
def Tryz.laysM171_ren : Go.Shelf.Ren := ⟨fun | 171 => 130 | 243 => 161 | 246 => 181 | 283 => 199 | 284 => 200 | 285 => 201 | 286 => 202 | 129 => 209 | 317 => 208 | 318 => 210 | 319 => 211 | 320 => 212 | 337 => 216 | 338 => 217 | n => n, fun | 3 => 3 | 9 => 9 | 2 => 2 | 4 => 4 | 171 => 198 | 0 => 0 | 53 => 159 | 37 => 115 | 5 => 5 | 173 => 201 | 212 => 210 | 51 => 40 | 20 => 20 | 213 => 211 | 46 => 180 | 232 => 220 | 233 => 221 | n => n, fun | 17 => 4 | 18 => 5 | 19 => 6 | n => n⟩
theorem Tryz.laysM171 : Go.Proofs.LaysM.n171 Tryz.prog Tryz.laysM171_ren := {
 mixed := by kernel_rfl
 f129 := Tryz.func209.trans (congrArg some (by kernel_rfl))
 f171 := Tryz.func130.trans (congrArg some (by kernel_rfl))
 f243 := Tryz.func161.trans (congrArg some (by kernel_rfl))
 f246 := Tryz.func181.trans (congrArg some (by kernel_rfl))
 f283 := Tryz.func199.trans (congrArg some (by kernel_rfl))
 f284 := Tryz.func200.trans (congrArg some (by kernel_rfl))
 f285 := Tryz.func201.trans (congrArg some (by kernel_rfl))
 f286 := Tryz.func202.trans (congrArg some (by kernel_rfl))
 f317 := Tryz.func208.trans (congrArg some (by kernel_rfl))
 f318 := Tryz.func210.trans (congrArg some (by kernel_rfl))
 f319 := Tryz.func211.trans (congrArg some (by kernel_rfl))
 f320 := Tryz.func212.trans (congrArg some (by kernel_rfl))
 f337 := Tryz.func216.trans (congrArg some (by kernel_rfl))
 f338 := Tryz.func217.trans (congrArg some (by kernel_rfl))
 t0 := Tryz.underlying0
 a0 := Tryz.isAgg0
 z0 := Tryz.sizeOf0
 v0 := Tryz.zeroValue0
 t2 := Tryz.underlying2
 a2 := Tryz.isAgg2
 z2 := Tryz.sizeOf2
 v2 := Tryz.zeroValue2
 t3 := Tryz.underlying3
 a3 := Tryz.isAgg3
 z3 := Tryz.sizeOf3
 v3 := Tryz.zeroValue3
 t4 := Tryz.underlying4
 a4 := Tryz.isAgg4
 z4 := Tryz.sizeOf4
 v4 := Tryz.zeroValue4
 t5 := Tryz.underlying5
 a5 := Tryz.isAgg5
 z5 := Tryz.sizeOf5
 v5 := Tryz.zeroValue5
 t9 := Tryz.underlying9
 a9 := Tryz.isAgg9
 z9 := Tryz.sizeOf9
 v9 := Tryz.zeroValue9
 t20 := Tryz.underlying20
 a20 := Tryz.isAgg20
 z20 := Tryz.sizeOf20
 v20 := Tryz.zeroValue20
 t37 := Tryz.underlying115
 a37 := Tryz.isAgg115
 z37 := Tryz.sizeOf115
 v37 := Tryz.zeroValue115
 t46 := Tryz.underlying180
 a46 := Tryz.isAgg180
 z46 := Tryz.sizeOf180
 v46 := Tryz.zeroValue180
 t51 := Tryz.underlying40
 a51 := Tryz.isAgg40
 z51 := Tryz.sizeOf40
 v51 := Tryz.zeroValue40
 t53 := Tryz.underlying159
 a53 := Tryz.isAgg159
 z53 := Tryz.sizeOf159
 v53 := Tryz.zeroValue159
 t171 := Tryz.underlying198
 a171 := Tryz.isAgg198
 z171 := Tryz.sizeOf198
 v171 := Tryz.zeroValue198
 t173 := Tryz.underlying201
 a173 := Tryz.isAgg201
 z173 := Tryz.sizeOf201
 v173 := Tryz.zeroValue201
 t212 := Tryz.underlying210
 a212 := Tryz.isAgg210
 z212 := Tryz.sizeOf210
 v212 := Tryz.zeroValue210
 t213 := Tryz.underlying211
 a213 := Tryz.isAgg211
 z213 := Tryz.sizeOf211
 t232 := Tryz.underlying220
 a232 := Tryz.isAgg220
 z232 := Tryz.sizeOf220
 v232 := Tryz.zeroValue220
 t233 := Tryz.underlying221
 a233 := Tryz.isAgg221
 z233 := Tryz.sizeOf221
 v233 := Tryz.zeroValue221
 g17 := by kernel_rfl
 g18 := by kernel_rfl
 g19 := by kernel_rfl
 i0 := by kernel_rfl
 i2 := by kernel_rfl
 i3 := by kernel_rfl
 i4 := by kernel_rfl
 i5 := by kernel_rfl
 i9 := by kernel_rfl
 i20 := by kernel_rfl
 i37 := by kernel_rfl
 i46 := by kernel_rfl
 i51 := by kernel_rfl
 i53 := by kernel_rfl
 i171 := by kernel_rfl
 i173 := by kernel_rfl
 i212 := by kernel_rfl
 i232 := by kernel_rfl
 i233 := by kernel_rfl
 m17 := by kernel_rfl
 m18 := by kernel_rfl
 m19 := by kernel_rfl }
open Go.RowKit Go.Sort Go.Lib in
theorem Tryz.strconv_Itoa (n : Int) (h0 : -9223372036854775808 ≤ n) (h1 : n ≤ 9223372036854775807) (w : World) (htab : Lib.TabIs Tryz.prog w "internal/strconv.uint64pow10" .u64 Lib.pow10Tab) :
  Calls Tryz.prog 130 #[.int .i64 n] w fun e w' => e = .returned (.string ⟨(Lib.itoa n).toArray⟩) ∧ ∃ k os, w' = grow (w.drewN k) os := Any.strconv_Itoa Tryz.laysM171 n h0 h1 w htab
def Tryz.laysC245_ren : Go.Shelf.Ren := ⟨fun | 245 => 172 | 279 => 191 | 280 => 192 | 281 => 193 | 282 => 194 | 316 => 205 | 171 => 130 | 205 => 206 | 243 => 161 | 246 => 181 | 283 => 199 | 284 => 200 | 285 => 201 | 286 => 202 | 129 => 209 | 317 => 208 | 318 => 210 | 319 => 211 | 320 => 212 | 337 => 216 | 338 => 217 | n => n, fun | 9 => 9 | 3 => 3 | 75 => 152 | 167 => 190 | 4 => 4 | 168 => 192 | 210 => 207 | 37 => 115 | 0 => 0 | 127 => 170 | 145 => 217 | 143 => 215 | 2 => 2 | 171 => 198 | 53 => 159 | 5 => 5 | 173 => 201 | 212 => 210 | 51 => 40 | 20 => 20 | 213 => 211 | 46 => 180 | 232 => 220 | 233 => 221 | 80 => 89 | n => n, fun | 15 => 2 | 16 => 3 | 17 => 4 | 18 => 5 | 19 => 6 | n => n⟩
theorem Tryz.laysC245 : Go.Proofs.LaysC.n245 Tryz.prog Tryz.laysC245_ren := {
 mixed := by kernel_rfl
 f129 := Tryz.func209.trans (congrArg some (by kernel_rfl))
 f171 := Tryz.func130.trans (congrArg some (by kernel_rfl))
 f205 := Tryz.func206.trans (congrArg some (by kernel_rfl))
 f243 := Tryz.func161.trans (congrArg some (by kernel_rfl))
 f245 := Tryz.func172.trans (congrArg some (by kernel_rfl))
 f246 := Tryz.func181.trans (congrArg some (by kernel_rfl))
 f279 := Tryz.func191.trans (congrArg some (by kernel_rfl))
 f280 := Tryz.func192.trans (congrArg some (by kernel_rfl))
 f281 := Tryz.func193.trans (congrArg some (by kernel_rfl))
 f282 := Tryz.func194.trans (congrArg some (by kernel_rfl))
 f283 := Tryz.func199.trans (congrArg some (by kernel_rfl))
 f284 := Tryz.func200.trans (congrArg some (by kernel_rfl))
 f285 := Tryz.func201.trans (congrArg some (by kernel_rfl))
 f286 := Tryz.func202.trans (congrArg some (by kernel_rfl))
 f316 := Tryz.func205.trans (congrArg some (by kernel_rfl))
 f317 := Tryz.func208.trans (congrArg some (by kernel_rfl))
 f318 := Tryz.func210.trans (congrArg some (by kernel_rfl))
 f319 := Tryz.func211.trans (congrArg some (by kernel_rfl))
 f320 := Tryz.func212.trans (congrArg some (by kernel_rfl))
 f337 := Tryz.func216.trans (congrArg some (by kernel_rfl))
 f338 := Tryz.func217.trans (congrArg some (by kernel_rfl))
 t0 := Tryz.underlying0
 a0 := Tryz.isAgg0
 z0 := Tryz.sizeOf0
 v0 := Tryz.zeroValue0
 t2 := Tryz.underlying2
 a2 := Tryz.isAgg2
 z2 := Tryz.sizeOf2
 v2 := Tryz.zeroValue2
 t3 := Tryz.underlying3
 a3 := Tryz.isAgg3
 z3 := Tryz.sizeOf3
 v3 := Tryz.zeroValue3
 t4 := Tryz.underlying4
 a4 := Tryz.isAgg4
 z4 := Tryz.sizeOf4
 v4 := Tryz.zeroValue4
 t5 := Tryz.underlying5
 a5 := Tryz.isAgg5
 z5 := Tryz.sizeOf5
 v5 := Tryz.zeroValue5
 t9 := Tryz.underlying9
 a9 := Tryz.isAgg9
 z9 := Tryz.sizeOf9
 v9 := Tryz.zeroValue9
 t20 := Tryz.underlying20
 a20 := Tryz.isAgg20
 z20 := Tryz.sizeOf20
 v20 := Tryz.zeroValue20
 t37 := Tryz.underlying115
 a37 := Tryz.isAgg115
 z37 := Tryz.sizeOf115
 v37 := Tryz.zeroValue115
 t46 := Tryz.underlying180
 a46 := Tryz.isAgg180
 z46 := Tryz.sizeOf180
 v46 := Tryz.zeroValue180
 t51 := Tryz.underlying40
 a51 := Tryz.isAgg40
 z51 := Tryz.sizeOf40
 v51 := Tryz.zeroValue40
 t53 := Tryz.underlying159
 a53 := Tryz.isAgg159
 z53 := Tryz.sizeOf159
 v53 := Tryz.zeroValue159
 t75 := Tryz.underlying152
 a75 := Tryz.isAgg152
 z75 := Tryz.sizeOf152
 v75 := Tryz.zeroValue152
 t127 := Tryz.underlying170
 a127 := Tryz.isAgg170
 z127 := Tryz.sizeOf170
 v127 := Tryz.zeroValue170
 t143 := Tryz.underlying215
 a143 := Tryz.isAgg215
 z143 := Tryz.sizeOf215
 v143 := Tryz.zeroValue215
 t145 := Tryz.underlying217
 a145 := Tryz.isAgg217
 z145 := Tryz.sizeOf217
 v145 := Tryz.zeroValue217
 t167 := Tryz.underlying190
 a167 := Tryz.isAgg190
 z167 := Tryz.sizeOf190
 v167 := Tryz.zeroValue190
 t168 := Tryz.underlying192
 a168 := Tryz.isAgg192
 z168 := Tryz.sizeOf192
 v168 := Tryz.zeroValue192
 t171 := Tryz.underlying198
 a171 := Tryz.isAgg198
 z171 := Tryz.sizeOf198
 v171 := Tryz.zeroValue198
 t173 := Tryz.underlying201
 a173 := Tryz.isAgg201
 z173 := Tryz.sizeOf201
 v173 := Tryz.zeroValue201
 t210 := Tryz.underlying207
 a210 := Tryz.isAgg207
 z210 := Tryz.sizeOf207
 v210 := Tryz.zeroValue207
 t212 := Tryz.underlying210
 a212 := Tryz.isAgg210
 z212 := Tryz.sizeOf210
 v212 := Tryz.zeroValue210
 t213 := Tryz.underlying211
 a213 := Tryz.isAgg211
 z213 := Tryz.sizeOf211
 t232 := Tryz.underlying220
 a232 := Tryz.isAgg220
 z232 := Tryz.sizeOf220
 v232 := Tryz.zeroValue220
 t233 := Tryz.underlying221
 a233 := Tryz.isAgg221
 z233 := Tryz.sizeOf221
 v233 := Tryz.zeroValue221
 g15 := by kernel_rfl
 g16 := by kernel_rfl
 g17 := by kernel_rfl
 g18 := by kernel_rfl
 g19 := by kernel_rfl
 t80 := Tryz.underlying89
 a80 := Tryz.isAgg89
 z80 := Tryz.sizeOf89
 v80 := Tryz.zeroValue89
 i0 := by kernel_rfl
 i2 := by kernel_rfl
 i3 := by kernel_rfl
 i4 := by kernel_rfl
 i5 := by kernel_rfl
 i9 := by kernel_rfl
 i20 := by kernel_rfl
 i37 := by kernel_rfl
 i46 := by kernel_rfl
 i51 := by kernel_rfl
 i53 := by kernel_rfl
 i75 := by kernel_rfl
 i80 := by kernel_rfl
 i127 := by kernel_rfl
 i143 := by kernel_rfl
 i145 := by kernel_rfl
 i167 := by kernel_rfl
 i168 := by kernel_rfl
 i171 := by kernel_rfl
 i173 := by kernel_rfl
 i210 := by kernel_rfl
 i212 := by kernel_rfl
 i232 := by kernel_rfl
 i233 := by kernel_rfl
 m15 := by kernel_rfl
 m16 := by kernel_rfl
 m17 := by kernel_rfl
 m18 := by kernel_rfl
 m19 := by kernel_rfl
 c0 := by kernel_rfl
 c2 := by kernel_rfl
 c3 := by kernel_rfl
 c4 := by kernel_rfl
 c5 := by kernel_rfl
 c9 := by kernel_rfl
 c20 := by kernel_rfl
 c37 := by kernel_rfl
 c46 := by kernel_rfl
 c51 := by kernel_rfl
 c53 := by kernel_rfl
 c75 := by kernel_rfl
 c80 := by kernel_rfl
 c127 := by kernel_rfl
 c143 := by kernel_rfl
 c145 := by kernel_rfl
 c167 := by kernel_rfl
 c168 := by kernel_rfl
 c171 := by kernel_rfl
 c173 := by kernel_rfl
 c210 := by kernel_rfl
 c212 := by kernel_rfl
 c213 := by kernel_rfl
 c232 := by kernel_rfl
 c233 := by kernel_rfl }
open Go.RowKit in
theorem Tryz.strconv_toError_syntax (fn s : ByteArray) (base bits : Int) (ev : Value) (w : World) (hlim : s.size ≤ 281474976710656) (hv : w.cell? ⟨2, 0, none⟩ = some ev) (hev : ev = .nilIface ∨ ∃ te pe, ev = .iface te pe) :
  Calls Tryz.prog 172 #[.string fn, .string s, .int .i64 base, .int .i64 bits, .iface 190 (.int .i64 2)] w fun e w' => ∃ N, e = .returned (.iface 192 (.pointer (some ⟨N, 0, none⟩))) ∧ w.heap.size ≤ N ∧ w'.heap[N]? = some (.cells #[.string fn, .string s, ev] 207 (0, 0)) ∧ Below w.heap.size w w' := Any.strconv_toError_syntax Tryz.laysC245 fn s base bits ev w hlim hv hev
open Go.RowKit in
theorem Tryz.strconv_toError_range (fn s : ByteArray) (base bits : Int) (ev : Value) (w : World) (hlim : s.size ≤ 281474976710656) (hv : w.cell? ⟨3, 0, none⟩ = some ev) (hev : ev = .nilIface ∨ ∃ te pe, ev = .iface te pe) :
  Calls Tryz.prog 172 #[.string fn, .string s, .int .i64 base, .int .i64 bits, .iface 190 (.int .i64 1)] w fun e w' => ∃ N, e = .returned (.iface 192 (.pointer (some ⟨N, 0, none⟩))) ∧ w.heap.size ≤ N ∧ w'.heap[N]? = some (.cells #[.string fn, .string s, ev] 207 (0, 0)) ∧ Below w.heap.size w w' := Any.strconv_toError_range Tryz.laysC245 fn s base bits ev w hlim hv hev
def Tryz.lays145_ren : Go.Shelf.Ren := ⟨fun | 145 => 240 | 220 => 244 | 219 => 246 | 217 => 248 | 225 => 249 | 224 => 250 | 267 => 251 | 266 => 253 | 314 => 254 | n => n, fun | 9 => 9 | 4 => 4 | 59 => 236 | 3 => 3 | 5 => 5 | 46 => 180 | 146 => 249 | 51 => 40 | n => n, fun | 1 => 1 | n => n⟩
theorem Tryz.lays145 : Go.Proofs.Lays.n145 Tryz.prog Tryz.lays145_ren := {
 mixed := by kernel_rfl
 f145 := Tryz.func240.trans (congrArg some (by kernel_rfl))
 f217 := Tryz.func248.trans (congrArg some (by kernel_rfl))
 f219 := Tryz.func246.trans (congrArg some (by kernel_rfl))
 f220 := Tryz.func244.trans (congrArg some (by kernel_rfl))
 f224 := Tryz.func250.trans (congrArg some (by kernel_rfl))
 f225 := Tryz.func249.trans (congrArg some (by kernel_rfl))
 f266 := Tryz.func253.trans (congrArg some (by kernel_rfl))
 f267 := Tryz.func251.trans (congrArg some (by kernel_rfl))
 f314 := Tryz.func254.trans (congrArg some (by kernel_rfl))
 t3 := Tryz.underlying3
 a3 := Tryz.isAgg3
 z3 := Tryz.sizeOf3
 v3 := Tryz.zeroValue3
 t4 := Tryz.underlying4
 a4 := Tryz.isAgg4
 z4 := Tryz.sizeOf4
 v4 := Tryz.zeroValue4
 t5 := Tryz.underlying5
 a5 := Tryz.isAgg5
 z5 := Tryz.sizeOf5
 v5 := Tryz.zeroValue5
 t9 := Tryz.underlying9
 a9 := Tryz.isAgg9
 z9 := Tryz.sizeOf9
 v9 := Tryz.zeroValue9
 t46 := Tryz.underlying180
 a46 := Tryz.isAgg180
 z46 := Tryz.sizeOf180
 v46 := Tryz.zeroValue180
 t51 := Tryz.underlying40
 a51 := Tryz.isAgg40
 z51 := Tryz.sizeOf40
 v51 := Tryz.zeroValue40
 t59 := Tryz.underlying236
 a59 := Tryz.isAgg236
 z59 := Tryz.sizeOf236
 v59 := Tryz.zeroValue236
 t146 := Tryz.underlying249
 a146 := Tryz.isAgg249
 z146 := Tryz.sizeOf249
 v146 := Tryz.zeroValue249
 g1 := by kernel_rfl }
open Go.RowKit Go.Lib in
theorem Tryz.strings_Cut (s sep : ByteArray) (m : Int) (w : World) (hs : s.size < 4294967281) (hm : w.cell? ⟨1, 0, none⟩ = some (.int .i64 m)) :
  Calls Tryz.prog 240 #[.string s, .string sep] w fun e w' => e = .returned (.tuple #[.string ⟨(Lib.cut s.data.toList sep.data.toList).1.toArray⟩, .string ⟨(Lib.cut s.data.toList sep.data.toList).2.1.toArray⟩, .bool (Lib.cut s.data.toList sep.data.toList).2.2]) ∧ ∃ n, w' = w.drewN n := Any.strings_Cut Tryz.lays145 s sep m w hs hm
def Tryz.laysM288_ren : Go.Shelf.Ren := ⟨fun | 288 => 204 | 283 => 199 | 284 => 200 | 285 => 201 | 286 => 202 | 129 => 209 | 317 => 208 | 318 => 210 | 319 => 211 | 320 => 212 | 337 => 216 | 338 => 217 | n => n, fun | 37 => 115 | 53 => 159 | 3 => 3 | 4 => 4 | 9 => 9 | 171 => 198 | 0 => 0 | 173 => 201 | 212 => 210 | 51 => 40 | 5 => 5 | 20 => 20 | 213 => 211 | 46 => 180 | 232 => 220 | 233 => 221 | n => n, fun | 17 => 4 | 18 => 5 | 19 => 6 | n => n⟩
theorem Tryz.laysM288 : Go.Proofs.LaysM.n288 Tryz.prog Tryz.laysM288_ren := {
 mixed := by kernel_rfl
 f129 := Tryz.func209.trans (congrArg some (by kernel_rfl))
 f283 := Tryz.func199.trans (congrArg some (by kernel_rfl))
 f284 := Tryz.func200.trans (congrArg some (by kernel_rfl))
 f285 := Tryz.func201.trans (congrArg some (by kernel_rfl))
 f286 := Tryz.func202.trans (congrArg some (by kernel_rfl))
 f288 := Tryz.func204.trans (congrArg some (by kernel_rfl))
 f317 := Tryz.func208.trans (congrArg some (by kernel_rfl))
 f318 := Tryz.func210.trans (congrArg some (by kernel_rfl))
 f319 := Tryz.func211.trans (congrArg some (by kernel_rfl))
 f320 := Tryz.func212.trans (congrArg some (by kernel_rfl))
 f337 := Tryz.func216.trans (congrArg some (by kernel_rfl))
 f338 := Tryz.func217.trans (congrArg some (by kernel_rfl))
 t0 := Tryz.underlying0
 a0 := Tryz.isAgg0
 z0 := Tryz.sizeOf0
 v0 := Tryz.zeroValue0
 t3 := Tryz.underlying3
 a3 := Tryz.isAgg3
 z3 := Tryz.sizeOf3
 v3 := Tryz.zeroValue3
 t4 := Tryz.underlying4
 a4 := Tryz.isAgg4
 z4 := Tryz.sizeOf4
 v4 := Tryz.zeroValue4
 t5 := Tryz.underlying5
 a5 := Tryz.isAgg5
 z5 := Tryz.sizeOf5
 v5 := Tryz.zeroValue5
 t9 := Tryz.underlying9
 a9 := Tryz.isAgg9
 z9 := Tryz.sizeOf9
 v9 := Tryz.zeroValue9
 t20 := Tryz.underlying20
 a20 := Tryz.isAgg20
 z20 := Tryz.sizeOf20
 v20 := Tryz.zeroValue20
 t37 := Tryz.underlying115
 a37 := Tryz.isAgg115
 z37 := Tryz.sizeOf115
 v37 := Tryz.zeroValue115
 t46 := Tryz.underlying180
 a46 := Tryz.isAgg180
 z46 := Tryz.sizeOf180
 v46 := Tryz.zeroValue180
 t51 := Tryz.underlying40
 a51 := Tryz.isAgg40
 z51 := Tryz.sizeOf40
 v51 := Tryz.zeroValue40
 t53 := Tryz.underlying159
 a53 := Tryz.isAgg159
 z53 := Tryz.sizeOf159
 v53 := Tryz.zeroValue159
 t171 := Tryz.underlying198
 a171 := Tryz.isAgg198
 z171 := Tryz.sizeOf198
 v171 := Tryz.zeroValue198
 t173 := Tryz.underlying201
 a173 := Tryz.isAgg201
 z173 := Tryz.sizeOf201
 v173 := Tryz.zeroValue201
 t212 := Tryz.underlying210
 a212 := Tryz.isAgg210
 z212 := Tryz.sizeOf210
 v212 := Tryz.zeroValue210
 t213 := Tryz.underlying211
 a213 := Tryz.isAgg211
 z213 := Tryz.sizeOf211
 t232 := Tryz.underlying220
 a232 := Tryz.isAgg220
 z232 := Tryz.sizeOf220
 v232 := Tryz.zeroValue220
 t233 := Tryz.underlying221
 a233 := Tryz.isAgg221
 z233 := Tryz.sizeOf221
 v233 := Tryz.zeroValue221
 g17 := by kernel_rfl
 g18 := by kernel_rfl
 g19 := by kernel_rfl
 i0 := by kernel_rfl
 i3 := by kernel_rfl
 i4 := by kernel_rfl
 i5 := by kernel_rfl
 i9 := by kernel_rfl
 i20 := by kernel_rfl
 i37 := by kernel_rfl
 i46 := by kernel_rfl
 i51 := by kernel_rfl
 i53 := by kernel_rfl
 i171 := by kernel_rfl
 i173 := by kernel_rfl
 i212 := by kernel_rfl
 i232 := by kernel_rfl
 i233 := by kernel_rfl
 m17 := by kernel_rfl
 m18 := by kernel_rfl
 m19 := by kernel_rfl }
open Go.RowKit Go.Sort Go.Lib in
theorem Tryz.internal_strconv_AppendUint_10 (B n u : Nat) (hu64 : u < 18446744073709551616) (sv : Value) (xs : List Value) (w : World) (hown : w.ownsRow B 5 1 sv n xs) (hBw : B ≤ w.heap.size) (hlim : n + 20 ≤ 140737488355328) (htab : Lib.TabIs Tryz.prog w "internal/strconv.uint64pow10" .u64 Lib.pow10Tab) :
  Calls Tryz.prog 204 #[sv, .int .u64 u, .int .i64 10] w fun e w' => ∃ v', e = .returned v' ∧ w'.ownsRow B 5 1 v' (n + (Lib.decDigits u).length) (xs ++ Lib.byteCells (Lib.decDigits u)) ∧ Below B w w' ∧ Lib.OthersKept 5 none w w' := Any.internal_strconv_AppendUint_10 Tryz.laysM288 B n u hu64 sv xs w hown hBw hlim htab
def Tryz.laysNm217_ren : Go.Shelf.Ren := ⟨fun | 17 => 104 | n => n, fun | 24 => 82 | 9 => 9 | 3 => 3 | 4 => 4 | 0 => 0 | n => n, fun | n => n⟩
theorem Tryz.laysNm217 : Go.Proofs.Lays2.n17 Tryz.prog Tryz.laysNm217_ren := {
 mixed := by kernel_rfl
 f17 := Tryz.func104.trans (congrArg some (by kernel_rfl))
 t0 := Tryz.underlying0
 a0 := Tryz.isAgg0
 z0 := Tryz.sizeOf0
 v0 := Tryz.zeroValue0
 t3 := Tryz.underlying3
 a3 := Tryz.isAgg3
 z3 := Tryz.sizeOf3
 v3 := Tryz.zeroValue3
 t4 := Tryz.underlying4
 a4 := Tryz.isAgg4
 z4 := Tryz.sizeOf4
 v4 := Tryz.zeroValue4
 t9 := Tryz.underlying9
 a9 := Tryz.isAgg9
 z9 := Tryz.sizeOf9
 v9 := Tryz.zeroValue9
 t24 := Tryz.underlying82
 a24 := Tryz.isAgg82
 z24 := Tryz.sizeOf82
 v24 := Tryz.zeroValue82 }
open Go.RowKit Go.Lib Go.Sort in
open Go.RowKit Go.Lib Go.Sort in
open Go.RowKit Go.Lib Go.Sort in
theorem Tryz.slices_Reverse_string_cells (b off n c : Nat) (Sx : Nat → ByteArray) (w : World) (hbig : n ≤ 9223372036854775807) (hc : ∀ i, i < n → w.cell? ⟨b, off + i, none⟩ = some (.string (Sx i))) (hf : ∀ j, j < n → w.frozen? ⟨b, off + j, none⟩ = false) :
  Calls Tryz.prog 104 #[.slice (some ⟨b, off, none⟩) n c] w fun e w' => e = .returned (.tuple #[]) ∧ ∃ q, w' = (w.drewN q).setCells b off ((Lib.strsOf Sx n).reverse.map encStr) := Any.slices_Reverse_string_cells Tryz.laysNm217 b off n c Sx w hbig hc hf
end Go.Proofs

namespace Go.Proofs.YtklipelnjgpnjaaGreatDoor
open Go.RowKit
theorem a5o {w w' : World} (a : Addr) (h : w'.heap[a.block]? = w.heap[a.block]?) : w'.cell? a = w.cell? a := by unfold World.cell?; rw [h]
theorem ab3 : Tryz.prog.globalNamed "internal/strconv.uint64pow10" = some 4 := by kernel_rfl
def j2 (w : World) : Prop := Lib.TabIs Tryz.prog w "internal/strconv.uint64pow10" .u64 Lib.pow10Tab ∧ w.cell? ⟨6, 15, none⟩ = some (.int .u8 4) ∧ ∃ m, w.cell? ⟨1, 0, none⟩ = some (.int .i64 m)
theorem j2.len {w : World} (T : j2 w) : ∃ m, w.cell? ⟨1, 0, none⟩ = some (.int .i64 m) := T.2.2
theorem j2.size {w : World} (T : j2 w) : 6 < w.heap.size := by
 have := T.2.1
 by_cases h : 6 < w.heap.size
 ·exact h
 ·unfold World.cell? at this
  rw [Array.getElem?_eq_none (by simpa using h)] at this
  simp at this
theorem j2.blocks {w w' : World} (T : j2 w) (h : ∀ k, k ≤ 6 → w'.heap[k]? = w.heap[k]?) : j2 w' := by
 refine ⟨?_, ?_, ?_⟩
 ·have := T.1
  unfold Lib.TabIs World.var? at *
  rw [ab3] at *
  simp only [Option.bind_some] at *
  rw [h 4 (by decide)]
  exact this
 ·rw [a5o ⟨6, 15, none⟩ (h 6 (by decide))]
  exact T.2.1
 ·rw [a5o ⟨1, 0, none⟩ (h 1 (by decide))]
  exact T.2.2
theorem j2.grown {w w' : World} (T : j2 w) (G : w.grownBy w' none) : j2 w' := T.blocks (fun k hk => G.block k (by have := T.size; omega) (by simp))
theorem j2.below {w w' : World} {B : Nat} (T : j2 w) (hB : 6 < B) (h : Below B w w') : j2 w' := T.blocks (fun k hk => h.block k (by omega))
def Ap (B : Nat) (w w' : World) : Prop := Below B w w' ∧ Lib.OthersKept 5 none w w'
theorem Ap.refl (B : Nat) (w : World) : Ap B w w := ⟨Below.refl _ _, Lib.OthersKept.refl _ _ _⟩
theorem Ap.trans {B : Nat} {a b c : World} (h : Ap B a b) (k : Ap B b c) : Ap B a c := ⟨h.1.trans k.1, h.2.trans k.2⟩
theorem Ap.ofNone {B : Nat} {w w' : World} (hB : B ≤ w.heap.size) (G : w.grownBy w' none) : Ap B w w' :=
 ⟨(Below.refl _ _).grown G hB (by simp), (Lib.OthersKept.refl _ _ _).grown G (by simp)⟩
theorem Ap.ofOwn {B n : Nat} {w w' : World} {v : Value} {vs : List Value} (O : w.ownsRow B 5 1 v n vs) (hB : B ≤ w.heap.size) (G : w.grownBy w' v.ownBlock) : Ap B w w' :=
 ⟨(Below.refl _ _).grown G hB (fun k hk => (O.lt k hk).1), (Lib.OthersKept.refl _ _ _).grown G (Lib.ownsRow_kind O)⟩
theorem Ap.none {w w' : World} (h : Ap w.heap.size w w') : w.grownBy w' none := ⟨h.1.os, h.1.tape, h.1.output, h.1.size, fun k hk _ => h.1.block k hk⟩
theorem Ap.heap {B : Nat} {w w' : World} (h : Ap B w w') {b : Nat} {cs : Array Value} {e : TypeId} {fz : Nat × Nat} (hb : w.heap[b]? = some (.cells cs e fz)) (he : e ≠ 5) : w'.heap[b]? = some (.cells cs e fz) :=
 h.2 b _ hb (by simp) (fun c f hc => he (by injection hc))
theorem Ap.size {B : Nat} {w w' : World} (h : Ap B w w') : w.heap.size ≤ w'.heap.size := h.1.size
theorem a5r (n : Nat) (h : n < 10 ^ 20) : Lib.decDigits n = dec n := by
 induction n using Nat.strongRecOn with
 | _ n ih =>
  rw [Lib.decDigits]
  by_cases h10 : n < 10
  ·rw [dif_pos h10]; simp [dec, a07, h10, dg]
  ·rw [dif_neg h10, ih (n / 10) (by omega) (by omega), a5u n h, a7P (n / 10) (by omega)]
   rfl
theorem al3 (xs : List UInt8) : Lib.byteCells xs = xs.map bv := rfl
theorem a40 (B u : Nat) (v : Value) (xs : List UInt8) (w : World) (hu : u ≤ 4294967295) (O : m9 w B v xs) (hB : B ≤ w.heap.size) (hl : xs.length + 20 ≤ 140737488355328) (T : j2 w) :
  Calls Tryz.prog 185 #[v, .int .u64 u, .int .i64 10] w fun e w' => ∃ v', e = .returned v' ∧ m9 w' B v' (xs ++ dec u) ∧ Ap B w w' := by
 have h20 : u < 10 ^ 20 := by omega
 have C := Tryz.internal_strconv_AppendUint_10 B xs.length u (by omega) v (xs.map bv) w O hB hl T.1
 rw [a5r u h20, al3] at C
 clear O T
 go_enter Tryz.func185, Tryz.ntmps185
 go_wp2_with fail
 refine C.mono ?_
 rintro e w' ⟨v', rfl, O', b, k⟩
 clear C
 go_wp2
 go_ret
 exact ⟨v', rfl, by unfold m9; rw [List.length_append, List.map_append]; exact O', b, k⟩
theorem an0 (b : UInt8) (s : List UInt8) (w : World) (hs : s.length < 4294967281) (T : j2 w) :
  Calls Tryz.prog 240 #[str s, .string ⟨#[b]⟩] w fun e w' => (∃ x y m, e = .returned (.tuple #[str x, str y, .bool m]) ∧ ((m = false ∧ x = s ∧ y = [] ∧ j4 b s = [s]) ∨ (m = true ∧ j4 b s = x :: j4 b y ∧ x.length + y.length + 1 = s.length))) ∧ ∃ n, w' = w.drewN n := by
 obtain ⟨m, hm⟩ := T.len
 refine (Tryz.strings_Cut ⟨s.toArray⟩ ⟨#[b]⟩ m w (by rw [← m8]; exact hs) hm).mono ?_
 rintro e w' ⟨rfl, n, rfl⟩
 refine ⟨?_, n, rfl⟩
 show ∃ x y m, Ending.returned (.tuple #[str (Lib.cut s [b]).1, str (Lib.cut s [b]).2.1, .bool (Lib.cut s [b]).2.2]) = _ ∧ _
 rcases an4 b s with ⟨h1, h2⟩ | ⟨x, y, h1, h2, h3⟩
 ·rw [h1]
  exact ⟨s, [], false, rfl, .inl ⟨rfl, rfl, rfl, h2⟩⟩
 ·rw [h1]
  exact ⟨x, y, true, rfl, .inr ⟨rfl, h2, h3⟩⟩
theorem an1 (s : List UInt8) (w : World) (hs : s.length < 4294967281) (T : j2 w) :
  Calls Tryz.prog 240 #[str s, .string ⟨#[58, 58]⟩] w fun e w' => (∃ x y m, e = .returned (.tuple #[str x, str y, .bool m]) ∧ ((m = false ∧ a09 s = none ∧ x = s ∧ y = []) ∨ (m = true ∧ ∃ k, a09 s = some k ∧ x = s.take k ∧ y = s.drop (k + 2)))) ∧ ∃ n, w' = w.drewN n := by
 obtain ⟨m, hm⟩ := T.len
 refine (Tryz.strings_Cut ⟨s.toArray⟩ ⟨#[58, 58]⟩ m w (by rw [← m8]; exact hs) hm).mono ?_
 rintro e w' ⟨rfl, n, rfl⟩
 refine ⟨?_, n, rfl⟩
 show ∃ x y m, Ending.returned (.tuple #[str (Lib.cut s [58, 58]).1, str (Lib.cut s [58, 58]).2.1, .bool (Lib.cut s [58, 58]).2.2]) = _ ∧ _
 cases hg : a09 s with
 | none =>
  rw [an2 s hg]
  exact ⟨s, [], false, rfl, .inl ⟨rfl, rfl, rfl, rfl⟩⟩
 | some k =>
  rw [an3 s k hg]
  exact ⟨_, _, true, rfl, .inr ⟨rfl, k, rfl, rfl, rfl⟩⟩
theorem a8v (a : Option Addr) (ca n : Nat) (p s : Int) (w : World) (hn : n ≤ 140737488355328) :
  Calls Tryz.prog 218 #[.slice a n ca, .int .i64 p, .int .i64 s] w fun e w' => e = .returned (.bool (okB n p s)) ∧ w = w' := by
 by_cases h : s = 1 ∨ s = 2 ∨ s = 4
 ·rcases h with rfl | rfl | rfl
  all_goals
   go_enter Tryz.func218, Tryz.ntmps218
   go_wp2
   ·go_ret
    exact ⟨W7 (aG7 (by omega)), rfl⟩
   ·go_ret
    exact ⟨W7 (a9b (by omega)), rfl⟩
 ·have h1 : (s != 1) = true := by rw [bne_iff_ne]; omega
  have h2 : (s != 2) = true := by rw [bne_iff_ne]; omega
  have h3 : (s != 4) = true := by rw [bne_iff_ne]; omega
  go_enter Tryz.func218, Tryz.ntmps218
  go_wp2
  go_ret
  exact ⟨W7 (a9b (by omega)), rfl⟩
theorem a5J (a : Option Addr) (ca : Nat) (xs : List UInt8) (p s : Int) (w : World) (ha : Cells w a xs) (hn : xs.length ≤ 140737488355328) :
  Calls Tryz.prog 214 #[.slice a xs.length ca, .int .i64 p, .int .i64 s] w fun e w' => e = .returned (.tuple #[.int .u32 (a1H xs p s), .bool (okB xs.length p s)]) ∧ w = w' := by
 cases hok : okB xs.length p s with
 | false =>
  go_enter Tryz.func214, Tryz.ntmps214
  go_wp2_with (go_at_call 218; refine (a8v a ca xs.length p s _ hn).mono ?_; rintro e w' ⟨rfl, rfl⟩)
  go_ret2
  simp [a1H, hok]
 | true =>
  have hy := aG8 hok
  obtain ⟨P, rfl⟩ := Int.eq_ofNat_of_zero_le hy.2.1
  obtain ⟨S, rfl⟩ : ∃ S : Nat, s = S := ⟨s.toNat, by omega⟩
  have hS : S = 1 ∨ S = 2 ∨ S = 4 := by omega
  have hP : P + S ≤ xs.length := by omega
  clear hy
  go_enter Tryz.func214, Tryz.ntmps214
  go_wp2_with (go_at_call 218; refine (a8v a ca xs.length P S _ hn).mono ?_; rintro e w' ⟨rfl, rfl⟩)
  go_loop [8, 16, 9] (fun v i _ => ∃ k : Nat, k ≤ S ∧ i = .int .i64 k ∧ v = .int .u32 (a0w xs P k)) (fun _ i _ => S - (intOf i).toNat)
  case atStart => exact ⟨0, Nat.zero_le _, rfl, rfl⟩
  case round =>
   obtain ⟨k, hk, rfl, rfl⟩ := hrel
   by_cases hlt : k < S
   ·obtain ⟨b, o, rfl, h1⟩ := ha.addr (k := P + k) (by omega)
    have c1 := h1 (P + k) (by omega)
    clear ha h1
    go_wp2
    go_round
    case rel => exact ⟨k + 1, by omega, by go_num, aF9 xs P k (by omega) (by omega)⟩
    case measure => simp [intOf]; omega
   ·obtain rfl : k = S := by omega
    go_wp2
    go_ret2
    simp [a1H, hok]

end Go.Proofs.YtklipelnjgpnjaaGreatDoor

namespace Go.Proofs.YtklipelnjgpnjaaGreatDoor
open Go.RowKit Go.Shelf

attribute [local go_sem] Oper.semAt_some
def Kp (n : Nat) (S : Nat → Prop) (W W' : World) : Prop := Below n W W' ∧ ∀ k o, S k → W.heap[k]? = some o → o.isCells = true → W'.heap[k]? = some o
theorem Kp.refl (n : Nat) (S : Nat → Prop) (W : World) : Kp n S W W := ⟨Below.refl _ _, fun _ _ _ h _ => h⟩
theorem Kp.trans {n : Nat} {S : Nat → Prop} {A B C : World} (h : Kp n S A B) (k : Kp n S B C) : Kp n S A C := ⟨h.1.trans k.1, fun i o hi ho hc => k.2 i o hi (h.2 i o hi ho hc) hc⟩
theorem Kp.book {n : Nat} {S : Nat → Prop} {w : World} (hn : n ≤ w.heap.size) (W : World) (l : Nat) (o o' : Obj) (hl : w.heap.size ≤ l) (h : W.heap[l]? = some o) (hc : o.isCells = false) (hw : o.isWalk = false) : Kp n S W (W.putObj l o') :=
 ⟨belowK_b hn W l o o' hl h hc hw, fun k o2 _ h2 hc2 => by
  by_cases e : k = l
  ·subst e; rw [h] at h2; cases h2; rw [hc] at hc2; cases hc2
  ·exact (World.putObj_heap_other e).trans h2⟩
theorem Kp.cell {n : Nat} {S : Nat → Prop} {W W' : World} (K : Kp n S W W') {a : Addr} {v : Value} (hs : a.block < n ∨ S a.block) (h : W.cell? a = some v) : W'.cell? a = some v := by
 rcases hs with hs | hs
 ·exact (K.1.cell hs).trans h
 ·obtain ⟨o, ho, hc⟩ : ∃ o : Obj, W.heap[a.block]? = some o ∧ o.isCells = true := by
   unfold World.cell? at h
   cases ho : W.heap[a.block]? with
   | none => simp [ho] at h
   | some o => exact ⟨o, rfl, by cases o <;> simp_all [Obj.isCells]⟩
  have e := K.2 a.block o hs ho hc
  rw [a5o a (e.trans ho.symm)]
  exact h
theorem Kp.drewN {n : Nat} {S : Nat → Prop} (W : World) (m : Nat) (hn : n ≤ W.heap.size) : Kp n S W (W.drewN m) :=
 ⟨(Below.refl _ _).grown (f9 W m none) hn (by simp), fun k o _ h _ => ((f9 W m none).block k (Array.getElem?_eq_some_iff.1 h).1 (by simp)).trans h⟩
theorem Kp.none {n : Nat} {S : Nat → Prop} {W W' : World} (G : W.grownBy W' none) (hn : n ≤ W.heap.size) : Kp n S W W' :=
 ⟨(Below.refl _ _).grown G hn (by simp), fun k o _ h _ => (G.block k (Array.getElem?_eq_some_iff.1 h).1 (by simp)).trans h⟩
abbrev a2O (p : Nat × List UInt8) : Array Value := #[.int .i64 (p.1 : Int), str p.2]
theorem a7h (s m : ByteArray) (w : World) :
  Calls Tryz.prog 238 #[.string s, .string m] w fun e w' => e = .returned (.func (.func 243) #[] #[.pointer (some ⟨w.heap.size, 0, none⟩), .pointer (some ⟨w.heap.size + 1, 0, none⟩)]) ∧ w' = (w.alloc (.cells #[.string s] 9)).alloc (.cells #[.string m] 9) := by
 go_enter Tryz.func238, Tryz.ntmps238
 go_wp2
 go_ret
 exact ⟨rfl, rfl⟩
def az7 (r m : Value) : Nat := match m with
 | .bool true => a3N r + 1
 | _ => 0
theorem ab1 (q : List UInt8) : a3N (str q) = q.length := by show (⟨q.toArray⟩ : ByteArray).size = _; rw [← m8]; rfl
theorem aM4 (n : Nat) (hn : 1 ≤ n) (l Bs Bm n₀ : Nat) (S : Nat → Prop) (b : UInt8) (s : List UInt8) (hs : s.length ≤ 1048576) (hS : S Bm ∨ Bm < n₀) (h3 : 6 < n₀) (J Jx : List (Nat × List UInt8) → World → Prop)
  (hY : ∀ pre x W, J pre W → pre.length < (j4 b s).length → YieldAt Fence.wide (n - 1) Tryz.prog l (a2O x) W fun e W' =>
   (e = .returned (.bool true) ∧ J (pre ++ [x]) W' ∧ Kp n₀ S W W') ∨ (e = .returned (.bool false) ∧ Jx (pre ++ [x]) W'))
  (W : World) (hJ : AbidesFrom W.heap.size J) (T : j2 W) (hBs : W.cell? ⟨Bs, 0, none⟩ = some (str s)) (hBm : W.cell? ⟨Bm, 0, none⟩ = some (.string ⟨#[b]⟩)) (h0 : J [] W) :
  CallsIn Fence.wide n Tryz.prog 243 #[.func (.yield l) #[] #[], .pointer (some ⟨Bs, 0, none⟩), .pointer (some ⟨Bm, 0, none⟩)] W fun e W' => (∃ v, e = .returned v) ∧
   ((∃ ys, ys = k6 0 (j4 b s) ∧ J ys W') ∨ (∃ pre, pre <+: k6 0 (j4 b s) ∧ Jx pre W')) := by
 refine callsIn_of_wp Tryz.func243 rfl trivial ?_ rfl
 simp only [Tryz.ntmps243, List.size_toArray, List.length_cons, List.length_nil, Nat.reduceAdd, Nat.reduceSub, Array.replicate_succ, Array.replicate_zero, List.push_toArray, List.append_toArray, List.nil_append, List.cons_append]
 gi_wp2
 gi_loopw [4, 5, 6] (fun r m i wr => ∃ (pre : List (Nat × List UInt8)) (q : List UInt8) (mo : Bool), r = str q ∧ m = .bool mo ∧ i = .int .i64 (pre.length : Int) ∧ q.length ≤ 1048576 ∧ Hid (k6 0 (j4 b s) = pre ++ (if mo = true then k6 pre.length (j4 b q) else [])) ∧ J pre wr ∧ wr.cell? ⟨Bm, 0, none⟩ = some (.string ⟨#[b]⟩) ∧ Hid (j2 wr) ∧ W.heap.size ≤ wr.heap.size) (fun r m _ _ => az7 r m)
 case atStart => exact ⟨[], s, true, rfl, rfl, rfl, hs, (show k6 0 (j4 b s) = _ from rfl), h0, hBm, T, Nat.le_refl _⟩
 case round =>
  clear h0 hBs hBm T
  obtain ⟨pre, q, mo, rfl, rfl, rfl, hq, HN, hJs, hcm, HT, hsz⟩ := hrel
  cases mo with
  | false =>
   have HN2 : Hid (pre = k6 0 (j4 b s)) := by
    have := HN.out
    simp at this
    exact this.symm
   gi_wp2
   go_end0
   exact ⟨⟨_, rfl⟩, .inl ⟨pre, HN2.out, hJs⟩⟩
  | true =>
   have CC := an0 b q wr (by omega) HT.out
   have HL : Hid ((j4 b s).length = pre.length + (j4 b q).length) := by
    have := congrArg List.length HN.out
    simp only [if_true, List.length_append, a2j] at this
    exact this
   have hm1 := a6E b [] s
   have hsl : (j4 b s).length ≤ 1048577 := by unfold j4; omega
   clear hm1
   gi_wp2_with (refine ⟨trivial, ?_⟩; gi_at_call 240; refine (callsIn_wide.2 CC).mono ?_; rintro e w1 ⟨⟨x, y, m, rfl, hm⟩, k, rfl⟩)
   have hpos : 1 ≤ (j4 b q).length := by
    rcases hm with ⟨-, -, -, h⟩ | ⟨-, h, -⟩ <;> rw [h] <;> simp
   have hJ1 : J pre (wr.drewN k) := hJ pre wr _ none hJs (f9 wr k none) (fun r e => by cases e)
   obtain ⟨fn, tmps, assign, body, hy, hR⟩ := hY pre (pre.length, x) (wr.drewN k) hJ1 (by have := HL.out; omega)
   dsimp only [a2O] at hy
   have hpl : pre.length ≤ 1048577 := by have := HL.out; omega
   have HM : Hid ((m = false ∧ x = q ∧ y = [] ∧ j4 b q = [q]) ∨ (m = true ∧ j4 b q = x :: j4 b y ∧ x.length + y.length + 1 = q.length)) := hm
   have HTk : Hid (j2 (wr.drewN k)) := HT.out.grown (f9 wr k none)
   have hcm1 : (wr.drewN k).cell? ⟨Bm, 0, none⟩ = some (.string ⟨#[b]⟩) := (f9 wr k none).cell hcm (by simp)
   have hsz1 : W.heap.size ≤ (wr.drewN k).heap.size := Nat.le_trans hsz (f9 wr k none).size
   have HN3 : Hid (k6 0 (j4 b s) = (pre ++ [(pre.length, x)]) ++ (if m = true then k6 (pre ++ [(pre.length, x)]).length (j4 b y) else [])) := by
    show _ = _
    have h := HN.out
    simp only [if_true] at h
    rw [h]
    rcases hm with ⟨rfl, rfl, rfl, h⟩ | ⟨rfl, h, -⟩
    ·rw [h]
     simp [k6]
    ·rw [h]
     simp [k6]
   clear hm CC hcm hJs HN HT hsz hJ1
   generalize wr.drewN k = wk at *
   gi_wp2
   rw [hy, Oper.uponIn_round]
   refine ⟨fun _ => hn, hR.mono ?_⟩
   rintro e W3 (⟨rfl, hJ3, hk3⟩ | ⟨rfl, hJx3⟩)
   ·have hcm3 := hk3.cell (a := ⟨Bm, 0, none⟩) (hS.elim .inr .inl) hcm1
    have HT3 : Hid (j2 W3) := HTk.out.below h3 hk3.1
    have hsz3 : W.heap.size ≤ W3.heap.size := Nat.le_trans hsz1 hk3.1.size
    clear hcm1 HTk hsz1
    gi_wp2
    go_roundw
    case rel =>
     refine ⟨pre ++ [(pre.length, x)], y, m, rfl, rfl, by simp, ?_, HN3, hJ3, hcm3, HT3, hsz3⟩
     rcases HM.out with ⟨-, -, rfl, -⟩ | ⟨-, -, h⟩
     ·simp
     ·omega
    case measure =>
     rcases HM.out with ⟨rfl, -, -, -⟩ | ⟨rfl, -, h⟩
     ·show 0 < a3N (str q) + 1
      omega
     ·show a3N (str y) + 1 < a3N (str q) + 1
      rw [ab1, ab1]
      omega
   ·gi_wp2
    refine bodyPost_ret (results_none rfl _ _ _) rfl ?_
    exact ⟨⟨_, rfl⟩, .inr ⟨pre ++ [(pre.length, x)], ⟨_, HN3.out.symm⟩, hJx3⟩⟩
theorem a9s (n : Nat) (hn : 1 ≤ n) (Bs Bm n₀ : Nat) (S : Nat → Prop) (b : UInt8) (s : List UInt8) (hs : s.length ≤ 1048576) (hS : S Bm ∨ Bm < n₀) (h3 : 6 < n₀) (w : World) (T : j2 w) (hBs : w.cell? ⟨Bs, 0, none⟩ = some (str s)) (hBm : w.cell? ⟨Bm, 0, none⟩ = some (.string ⟨#[b]⟩)) :
  SeqStopsK Fence.wide n Tryz.prog 243 #[.pointer (some ⟨Bs, 0, none⟩), .pointer (some ⟨Bm, 0, none⟩)] a2O (Kp n₀ S) (fun ys => ys = k6 0 (j4 b s)) (fun pre => pre <+: k6 0 (j4 b s)) (j4 b s).length w := fun l J Jx W hW hJ _ hY h0 => by
 have lt : ∀ {a : Addr} {v : Value}, w.cell? a = some v → a.block < w.heap.size := fun {a v} h => by
  by_cases hb : a.block < w.heap.size
  ·exact hb
  ·unfold World.cell? at h
   rw [Array.getElem?_eq_none (by omega)] at h
   simp at h
 exact aM4 n hn l Bs Bm n₀ S b s hs hS h3 J Jx hY W hJ (T.below T.size hW) ((hW.cell (p := ⟨Bs, 0, none⟩) (lt hBs)).trans hBs) ((hW.cell (p := ⟨Bm, 0, none⟩) (lt hBm)).trans hBm) h0
theorem a9a {m : Nat} : ∀ (v : Nat) (d : List UInt8) (n : Nat), L0 m v d = some n → v ≤ n
 | v, [], n, h => by simp [L0] at h; omega
 | v, c :: d, n, h => by
  rw [L0] at h
  split at h
  ·split at h
   ·cases h
   ·have := a9a _ d n h; omega
  ·cases h
theorem a98 {a b : Nat} (hab : a ≤ b) : ∀ (d : List UInt8) (v : Nat), v ≤ a → L0 a v d = (L0 b v d).bind fun u => if a < u then none else some u
 | [], v, hv => by simp [L0]; omega
 | c :: d, v, hv => by
  rw [L0, L0]
  split
  ·by_cases h1 : a < 10 * v + (c.toNat - 48)
   ·rw [if_pos h1]
    split
    ·rfl
    ·cases hn : L0 b (10 * v + (c.toNat - 48)) d with
     | none => rfl
     | some u =>
      have := a9a _ d u hn
      simp only [Option.bind_some]
      rw [if_pos (by omega)]
   ·rw [if_neg h1, if_neg (by omega)]
    exact a98 hab d _ (by omega)
  ·rfl
def a6Y (s : ByteArray) (e : Ending) : Prop := ∃ n : Nat, e = .returned (.tuple #[.int .u8 (n : Int), .bool (B5 255 (sl s)).isSome]) ∧ n < 256 ∧ ∀ u, B5 255 (sl s) = some u → n = u
theorem a4B {s : ByteArray} {e : Ending} (h : B5 255 (sl s) = none) (he : e = .returned (.tuple #[.int .u8 0, .bool false])) : a6Y s e :=
 ⟨0, by rw [h]; exact he, by decide, fun u hu => by rw [h] at hu; cases hu⟩
theorem aG6 (s : ByteArray) (w : World) :
  Calls Tryz.prog 239 #[.string s] w fun e w' => a6Y s e ∧ w = w' := by
 have hl := m8 s
 by_cases h0 : s.size = 0
 ·have hn : B5 255 (sl s) = none := by
   have : sl s = [] := List.eq_nil_of_length_eq_zero (by rw [m8]; exact h0)
   simp [B5, this]
  have HN : Hid (B5 255 (sl s) = none) := hn
  have hq : (s.size : Int) < 1 := by omega
  clear hn
  go_enter Tryz.func239, Tryz.ntmps239
  go_wp2
  go_ret2
  exact ⟨a4B HN.out rfl, rfl⟩
 ·have hq : ¬ (s.size : Int) < 1 := by omega
  by_cases h3 : 3 < s.size
  ·have hq3 : (3 : Int) < (s.size : Int) := by omega
   have hn : B5 255 (sl s) = none := by
    rw [B5]
    split
    ·rfl
    ·rename_i hh
     obtain ⟨a, b, c, d, r, hs⟩ : ∃ a b c d r, sl s = a :: b :: c :: d :: r := by
      match hm : sl s, hl with
      | a :: b :: c :: d :: r, _ => exact ⟨a, b, c, d, r, rfl⟩
      | [], hl => simp at hl; omega
      | [a], hl => simp at hl; omega
      | [a, b], hl => simp at hl; omega
      | [a, b, c], hl => simp at hl; omega
     rw [hs]
     simp only [hs, List.head?_cons, Option.some.injEq, List.length_cons] at hh
     have ha : a ≠ 48 := fun e => hh (.inr ⟨by omega, e⟩)
     simp only [L0]
     split
     ·rename_i hd
      have h49 : 49 ≤ a.toNat := by
       have h48 : a.toNat ≠ 48 := fun e => ha (UInt8.toNat_inj.1 e)
       simp [H9] at hd
       omega
      split
      ·rfl
      ·split
       ·split
        ·rfl
        ·split
         ·split
          ·rfl
          ·split
           ·rw [if_pos (by omega)]
           ·rfl
         ·rfl
       ·rfl
     ·rfl
   have HN : Hid (B5 255 (sl s) = none) := hn
   clear hn
   go_enter Tryz.func239, Tryz.ntmps239
   go_wp2
   go_ret2
   exact ⟨a4B HN.out rfl, rfl⟩
  ·have hq3 : ¬ (3 : Int) < (s.size : Int) := by omega
   obtain ⟨b, r, hbr⟩ : ∃ b r, sl s = b :: r := by
    cases h : sl s with
    | nil => rw [h] at hl; simp at hl; omega
    | cons b r => exact ⟨b, r, rfl⟩
   have hb0 : s[0]'(by omega) = b := by
    have := a0c s 0 (by omega)
    rw [hbr] at this
    simpa using this.symm
   by_cases hlead : 1 < s.size ∧ b = 48
   ·have hn : B5 255 (sl s) = none := by
     rw [B5, if_pos]
     rw [hbr]
     right
     rw [hbr] at hl
     exact ⟨by omega, by rw [hlead.2]; rfl⟩
    have HN : Hid (B5 255 (sl s) = none) := hn
    clear hn
    obtain ⟨h1, rfl⟩ := hlead
    have h1' : (1 : Int) < (s.size : Int) := by omega
    go_enter Tryz.func239, Tryz.ntmps239
    go_wp2
    go_ret2
    exact ⟨a4B HN.out rfl, rfl⟩
   ·have e : B5 255 (sl s) = L0 255 0 (sl s) := by
     rw [B5, if_neg]
     rw [hbr]
     rw [hbr] at hl
     simp only [reduceCtorEq, List.head?_cons, Option.some.injEq, false_or]
     intro ⟨x, y⟩
     exact hlead ⟨by omega, y⟩
    have e2 := a98 (a := 255) (b := 999) (by decide) (sl s) 0 (by decide)
    have HE : Hid (B5 255 (sl s) = (L0 999 0 (sl s)).bind fun u => if 255 < u then none else some u) := e.trans e2
    have hcase : ((b.toNat : Int) == 48) = false ∨ (((b.toNat : Int) == 48) = true ∧ ¬ (1 : Int) < (s.size : Int)) := by
     by_cases hb : b.toNat = 48
     ·refine .inr ⟨by rw [hb]; rfl, fun h1 => hlead ⟨by omega, UInt8.toNat_inj.1 hb⟩⟩
     ·refine .inl ?_
      rw [beq_eq_false_iff_ne]
      omega
    clear hlead hbr e e2
    rcases hcase with hcb | ⟨hcb, hca⟩
    all_goals
     go_enter Tryz.func239, Tryz.ntmps239
     go_wp2
     try clear hca
     clear hcb hb0
     go_loop [4, 26] (fun x i => ∃ k v : Nat, k ≤ s.size ∧ v < 10 ^ k ∧ i = .int .i64 k ∧ x = .int .i64 v ∧ Hid (L0 999 v ((sl s).drop k) = L0 999 0 (sl s))) (fun _ i => s.size - (intOf i).toNat)
     case atStart => exact ⟨0, 0, Nat.zero_le _, by decide, rfl, rfl, rfl⟩
     case round =>
      obtain ⟨k, v, hk, hv, rfl, rfl, HI⟩ := hrel
      by_cases hlt : k < s.size
      ·have hki : (k : Int) < (s.size : Int) := by omega
       have HS : Hid ((sl s).drop k = s[k] :: (sl s).drop (k + 1)) := a0c s k hlt
       have hb := s[k].toNat_lt
       have hv99 : v ≤ 99 := by
        have : k = 0 ∨ k = 1 ∨ k = 2 := by omega
        rcases this with rfl | rfl | rfl <;> omega
       by_cases hd : H9 s[k] = true
       ·have hd1 : 48 ≤ s[k].toNat := by simp [H9] at hd; omega
        have hd2 : s[k].toNat ≤ 57 := by simp [H9] at hd; omega
        have HN : Hid (L0 999 (10 * v + (s[k].toNat - 48)) ((sl s).drop (k + 1)) = L0 999 0 (sl s)) := by
         show _ = _
         rw [← HI.out, HS.out, L0, if_pos hd, if_neg (by omega)]
        have hv2 : 10 * v + (s[k].toNat - 48) < 10 ^ (k + 1) := by rw [Nat.pow_succ]; omega
        go_wp2
        go_round
        case rel => exact ⟨k + 1, 10 * v + (s[k].toNat - 48), by omega, hv2, by go_num, by rw [show ((10 * v + (s[k].toNat - 48) : Nat) : Int) = 10 * (v : Int) + ((s[k].toNat : Int) - 48) by omega], HN⟩
        case measure => simp [intOf]; omega
       ·have HN : Hid (B5 255 (sl s) = none) := by
         show _ = none
         rw [HE.out, ← HI.out, HS.out, L0, if_neg hd]
         rfl
        have hd' : s[k].toNat < 48 ∨ 57 < s[k].toNat := by simp [H9] at hd; omega
        rcases hd' with hd' | hd'
        all_goals
         go_wp2
         all_goals (first | (exfalso; omega) | (go_ret2; exact ⟨a4B HN.out rfl, rfl⟩))
      ·obtain rfl : k = s.size := by omega
       have HN : Hid (B5 255 (sl s) = if 255 < v then none else some v) := by
        show _ = _
        rw [HE.out, ← HI.out, List.drop_eq_nil_of_le (by rw [m8]; omega)]
        rfl
       have hv999 : v ≤ 999 := by
        have : s.size = 1 ∨ s.size = 2 ∨ s.size = 3 := by omega
        rcases this with h | h | h <;> rw [h] at hv <;> omega
       by_cases h255 : v ≤ 255
       ·have h255' : (v : Int) ≤ 255 := by omega
        go_wp2
        go_ret2
        exact ⟨⟨v, by rw [HN.out, if_neg (by omega)]; rfl, by omega, fun u hu => by rw [HN.out, if_neg (by omega)] at hu; exact Option.some.inj hu⟩, rfl⟩
       ·have h255' : ¬ (v : Int) ≤ 255 := by omega
        have hw : IntKind.u8.wrap (v : Int) = ((v % 256 : Nat) : Int) := by rw [IntKind.wrap_u8]; omega
        go_wp2
        go_ret2
        exact ⟨⟨v % 256, by rw [HN.out, if_pos (by omega)]; first | rfl | (rw [← hw]; rfl), by omega, fun u hu => by rw [HN.out, if_pos (by omega)] at hu; cases hu⟩, rfl⟩

end Go.Proofs.YtklipelnjgpnjaaGreatDoor
