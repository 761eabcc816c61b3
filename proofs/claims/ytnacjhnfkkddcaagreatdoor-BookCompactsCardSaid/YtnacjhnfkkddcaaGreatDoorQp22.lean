import Derived.Shelf.Strconv.Atoi
import Derived.Shelf.Strconv.Itoa0
import Derived.Shelf.Strconv.Itoa1
import Derived.Shelf.LaysM
import Derived.Shelf.Strconv.Itoa2
import Derived.Shelf.Strconv.Itoa3
import Derived.Shelf.Sort.Plain
import Derived.Shelf.Slices.Equal
import Derived.Shelf.Slices.In.SortNone
import Derived.Shelf.Slices.Empties2
import Derived.Test.YtnacjhnfkkddcaaGreatDoorProg
import Derived.Lib.SmallJoins
import Derived.Lib.LaidTab
import Derived.Test.YtnacjhnfkkddcaaGreatDoorQp17
import Derived.Lib.LaidU8
import Derived.Test.YtnacjhnfkkddcaaGreatDoorQp09
import Derived.Deep.RegionWith
import Derived.Laws.Tables
import Derived.Laws.Cover3
import Derived.Sort.OwnSorted
import Derived.Sort.KeysCollected
set_option maxHeartbeats 6400000
set_option maxRecDepth 100000
set_option linter.unusedSimpArgs false
set_option linter.unusedVariables false
namespace Go.Proofs
open Go.Shelf
def Tryz.lays172_ren : Go.Shelf.Ren := ⟨fun | 172 => 42 | 244 => 78 | 245 => 79 | 247 => 115 | 279 => 116 | 280 => 117 | 281 => 118 | 282 => 119 | 287 => 164 | 316 => 165 | 171 => 76 | 205 => 166 | 321 => 197 | 322 => 198 | 243 => 113 | 246 => 162 | 283 => 184 | 284 => 185 | 285 => 186 | 286 => 187 | 129 => 130 | 317 => 205 | 318 => 206 | 319 => 207 | 320 => 208 | 337 => 216 | 338 => 217 | n => n, fun | 9 => 9 | 3 => 3 | 75 => 97 | 76 => 98 | 4 => 4 | 5 => 5 | 167 => 161 | 37 => 162 | 0 => 0 | 85 => 163 | 2 => 2 | 168 => 165 | 53 => 178 | 175 => 199 | 46 => 108 | 210 => 203 | 127 => 227 | 145 => 230 | 143 => 228 | 21 => 21 | 171 => 216 | 173 => 218 | 212 => 245 | 51 => 176 | 20 => 20 | 213 => 246 | 232 => 254 | 233 => 255 | 80 => 256 | n => n, fun | 15 => 2 | 16 => 3 | 17 => 4 | 18 => 5 | 19 => 6 | n => n⟩
theorem Tryz.lays172 : Go.Proofs.Lays.n172 Tryz.prog Tryz.lays172_ren := {
 mixed := by kernel_rfl
 f129 := Tryz.func130.trans (congrArg some (by kernel_rfl))
 f171 := Tryz.func76.trans (congrArg some (by kernel_rfl))
 f172 := Tryz.func42.trans (congrArg some (by kernel_rfl))
 f205 := Tryz.func166.trans (congrArg some (by kernel_rfl))
 f243 := Tryz.func113.trans (congrArg some (by kernel_rfl))
 f244 := Tryz.func78.trans (congrArg some (by kernel_rfl))
 f245 := Tryz.func79.trans (congrArg some (by kernel_rfl))
 f246 := Tryz.func162.trans (congrArg some (by kernel_rfl))
 f247 := Tryz.func115.trans (congrArg some (by kernel_rfl))
 f279 := Tryz.func116.trans (congrArg some (by kernel_rfl))
 f280 := Tryz.func117.trans (congrArg some (by kernel_rfl))
 f281 := Tryz.func118.trans (congrArg some (by kernel_rfl))
 f282 := Tryz.func119.trans (congrArg some (by kernel_rfl))
 f283 := Tryz.func184.trans (congrArg some (by kernel_rfl))
 f284 := Tryz.func185.trans (congrArg some (by kernel_rfl))
 f285 := Tryz.func186.trans (congrArg some (by kernel_rfl))
 f286 := Tryz.func187.trans (congrArg some (by kernel_rfl))
 f287 := Tryz.func164.trans (congrArg some (by kernel_rfl))
 f316 := Tryz.func165.trans (congrArg some (by kernel_rfl))
 f317 := Tryz.func205.trans (congrArg some (by kernel_rfl))
 f318 := Tryz.func206.trans (congrArg some (by kernel_rfl))
 f319 := Tryz.func207.trans (congrArg some (by kernel_rfl))
 f320 := Tryz.func208.trans (congrArg some (by kernel_rfl))
 f321 := Tryz.func197.trans (congrArg some (by kernel_rfl))
 f322 := Tryz.func198.trans (congrArg some (by kernel_rfl))
 f337 := Tryz.func216.trans (congrArg some (by kernel_rfl))
 f338 := Tryz.func217.trans (congrArg some (by kernel_rfl))
 t0 := Tryz.underlying0
 a0 := Tryz.isAgg0
 z0 := Tryz.sizeOf0
 v0 := Tryz.zeroValue0
 t2 := Tryz.underlying2
 a2 := Tryz.isAgg2
 z2 := Tryz.sizeOf2
 v2 := Tryz.zeroValue2
 t3 := Tryz.underlying3
 a3 := Tryz.isAgg3
 z3 := Tryz.sizeOf3
 v3 := Tryz.zeroValue3
 t4 := Tryz.underlying4
 a4 := Tryz.isAgg4
 z4 := Tryz.sizeOf4
 v4 := Tryz.zeroValue4
 t5 := Tryz.underlying5
 a5 := Tryz.isAgg5
 z5 := Tryz.sizeOf5
 v5 := Tryz.zeroValue5
 t9 := Tryz.underlying9
 a9 := Tryz.isAgg9
 z9 := Tryz.sizeOf9
 v9 := Tryz.zeroValue9
 t20 := Tryz.underlying20
 a20 := Tryz.isAgg20
 z20 := Tryz.sizeOf20
 v20 := Tryz.zeroValue20
 t21 := Tryz.underlying21
 a21 := Tryz.isAgg21
 z21 := Tryz.sizeOf21
 v21 := Tryz.zeroValue21
 t37 := Tryz.underlying162
 a37 := Tryz.isAgg162
 z37 := Tryz.sizeOf162
 v37 := Tryz.zeroValue162
 t46 := Tryz.underlying108
 a46 := Tryz.isAgg108
 z46 := Tryz.sizeOf108
 v46 := Tryz.zeroValue108
 t51 := Tryz.underlying176
 a51 := Tryz.isAgg176
 z51 := Tryz.sizeOf176
 v51 := Tryz.zeroValue176
 t53 := Tryz.underlying178
 a53 := Tryz.isAgg178
 z53 := Tryz.sizeOf178
 v53 := Tryz.zeroValue178
 t75 := Tryz.underlying97
 a75 := Tryz.isAgg97
 z75 := Tryz.sizeOf97
 v75 := Tryz.zeroValue97
 t76 := Tryz.underlying98
 a76 := Tryz.isAgg98
 z76 := Tryz.sizeOf98
 v76 := Tryz.zeroValue98
 t85 := Tryz.underlying163
 a85 := Tryz.isAgg163
 z85 := Tryz.sizeOf163
 v85 := Tryz.zeroValue163
 t127 := Tryz.underlying227
 a127 := Tryz.isAgg227
 z127 := Tryz.sizeOf227
 v127 := Tryz.zeroValue227
 t143 := Tryz.underlying228
 a143 := Tryz.isAgg228
 z143 := Tryz.sizeOf228
 v143 := Tryz.zeroValue228
 t145 := Tryz.underlying230
 a145 := Tryz.isAgg230
 z145 := Tryz.sizeOf230
 v145 := Tryz.zeroValue230
 t167 := Tryz.underlying161
 a167 := Tryz.isAgg161
 z167 := Tryz.sizeOf161
 v167 := Tryz.zeroValue161
 t168 := Tryz.underlying165
 a168 := Tryz.isAgg165
 z168 := Tryz.sizeOf165
 v168 := Tryz.zeroValue165
 t171 := Tryz.underlying216
 a171 := Tryz.isAgg216
 z171 := Tryz.sizeOf216
 v171 := Tryz.zeroValue216
 t173 := Tryz.underlying218
 a173 := Tryz.isAgg218
 z173 := Tryz.sizeOf218
 v173 := Tryz.zeroValue218
 t175 := Tryz.underlying199
 a175 := Tryz.isAgg199
 z175 := Tryz.sizeOf199
 v175 := Tryz.zeroValue199
 t210 := Tryz.underlying203
 a210 := Tryz.isAgg203
 z210 := Tryz.sizeOf203
 v210 := Tryz.zeroValue203
 t212 := Tryz.underlying245
 a212 := Tryz.isAgg245
 z212 := Tryz.sizeOf245
 v212 := Tryz.zeroValue245
 t213 := Tryz.underlying246
 a213 := Tryz.isAgg246
 z213 := Tryz.sizeOf246
 t232 := Tryz.underlying254
 a232 := Tryz.isAgg254
 z232 := Tryz.sizeOf254
 v232 := Tryz.zeroValue254
 t233 := Tryz.underlying255
 a233 := Tryz.isAgg255
 z233 := Tryz.sizeOf255
 v233 := Tryz.zeroValue255
 g15 := by kernel_rfl
 g16 := by kernel_rfl
 g17 := by kernel_rfl
 g18 := by kernel_rfl
 g19 := by kernel_rfl }
open Go.RowKit in
theorem Tryz.strconv_Atoi (s : ByteArray) (n : Int) (hl : s.size ≤ 18) (h : Lib.atoi s.data.toList = some n) (w : World) :
 Calls Tryz.prog 42 #[.string s] w fun e w' => e = .returned (.tuple #[.int .i64 n, .nilIface]) ∧ ∃ t, w' = Lib.bytesWorld w 5 t := Any.strconv_Atoi Tryz.lays172 s n hl h w
def Tryz.laysM171_ren : Go.Shelf.Ren := ⟨fun | 171 => 76 | 243 => 113 | 246 => 162 | 283 => 184 | 284 => 185 | 285 => 186 | 286 => 187 | 129 => 130 | 317 => 205 | 318 => 206 | 319 => 207 | 320 => 208 | 337 => 216 | 338 => 217 | n => n, fun | 3 => 3 | 9 => 9 | 2 => 2 | 4 => 4 | 171 => 216 | 0 => 0 | 53 => 178 | 37 => 162 | 5 => 5 | 173 => 218 | 212 => 245 | 51 => 176 | 20 => 20 | 213 => 246 | 46 => 108 | 232 => 254 | 233 => 255 | n => n, fun | 17 => 4 | 18 => 5 | 19 => 6 | n => n⟩
theorem Tryz.laysM171 : Go.Proofs.LaysM.n171 Tryz.prog Tryz.laysM171_ren := {
 mixed := by kernel_rfl
 f129 := Tryz.func130.trans (congrArg some (by kernel_rfl))
 f171 := Tryz.func76.trans (congrArg some (by kernel_rfl))
 f243 := Tryz.func113.trans (congrArg some (by kernel_rfl))
 f246 := Tryz.func162.trans (congrArg some (by kernel_rfl))
 f283 := Tryz.func184.trans (congrArg some (by kernel_rfl))
 f284 := Tryz.func185.trans (congrArg some (by kernel_rfl))
 f285 := Tryz.func186.trans (congrArg some (by kernel_rfl))
 f286 := Tryz.func187.trans (congrArg some (by kernel_rfl))
 f317 := Tryz.func205.trans (congrArg some (by kernel_rfl))
 f318 := Tryz.func206.trans (congrArg some (by kernel_rfl))
 f319 := Tryz.func207.trans (congrArg some (by kernel_rfl))
 f320 := Tryz.func208.trans (congrArg some (by kernel_rfl))
 f337 := Tryz.func216.trans (congrArg some (by kernel_rfl))
 f338 := Tryz.func217.trans (congrArg some (by kernel_rfl))
 t0 := Tryz.underlying0
 a0 := Tryz.isAgg0
 z0 := Tryz.sizeOf0
 v0 := Tryz.zeroValue0
 t2 := Tryz.underlying2
 a2 := Tryz.isAgg2
 z2 := Tryz.sizeOf2
 v2 := Tryz.zeroValue2
 t3 := Tryz.underlying3
 a3 := Tryz.isAgg3
 z3 := Tryz.sizeOf3
 v3 := Tryz.zeroValue3
 t4 := Tryz.underlying4
 a4 := Tryz.isAgg4
 z4 := Tryz.sizeOf4
 v4 := Tryz.zeroValue4
 t5 := Tryz.underlying5
 a5 := Tryz.isAgg5
 z5 := Tryz.sizeOf5
 v5 := Tryz.zeroValue5
 t9 := Tryz.underlying9
 a9 := Tryz.isAgg9
 z9 := Tryz.sizeOf9
 v9 := Tryz.zeroValue9
 t20 := Tryz.underlying20
 a20 := Tryz.isAgg20
 z20 := Tryz.sizeOf20
 v20 := Tryz.zeroValue20
 t37 := Tryz.underlying162
 a37 := Tryz.isAgg162
 z37 := Tryz.sizeOf162
 v37 := Tryz.zeroValue162
 t46 := Tryz.underlying108
 a46 := Tryz.isAgg108
 z46 := Tryz.sizeOf108
 v46 := Tryz.zeroValue108
 t51 := Tryz.underlying176
 a51 := Tryz.isAgg176
 z51 := Tryz.sizeOf176
 v51 := Tryz.zeroValue176
 t53 := Tryz.underlying178
 a53 := Tryz.isAgg178
 z53 := Tryz.sizeOf178
 v53 := Tryz.zeroValue178
 t171 := Tryz.underlying216
 a171 := Tryz.isAgg216
 z171 := Tryz.sizeOf216
 v171 := Tryz.zeroValue216
 t173 := Tryz.underlying218
 a173 := Tryz.isAgg218
 z173 := Tryz.sizeOf218
 v173 := Tryz.zeroValue218
 t212 := Tryz.underlying245
 a212 := Tryz.isAgg245
 z212 := Tryz.sizeOf245
 v212 := Tryz.zeroValue245
 t213 := Tryz.underlying246
 a213 := Tryz.isAgg246
 z213 := Tryz.sizeOf246
 t232 := Tryz.underlying254
 a232 := Tryz.isAgg254
 z232 := Tryz.sizeOf254
 v232 := Tryz.zeroValue254
 t233 := Tryz.underlying255
 a233 := Tryz.isAgg255
 z233 := Tryz.sizeOf255
 v233 := Tryz.zeroValue255
 g17 := by kernel_rfl
 g18 := by kernel_rfl
 g19 := by kernel_rfl
 i0 := by kernel_rfl
 i2 := by kernel_rfl
 i3 := by kernel_rfl
 i4 := by kernel_rfl
 i5 := by kernel_rfl
 i9 := by kernel_rfl
 i20 := by kernel_rfl
 i37 := by kernel_rfl
 i46 := by kernel_rfl
 i51 := by kernel_rfl
 i53 := by kernel_rfl
 i171 := by kernel_rfl
 i173 := by kernel_rfl
 i212 := by kernel_rfl
 i232 := by kernel_rfl
 i233 := by kernel_rfl
 m17 := by kernel_rfl
 m18 := by kernel_rfl
 m19 := by kernel_rfl }
open Go.RowKit Go.Sort Go.Lib in
theorem Tryz.strconv_Itoa (n : Int) (h0 : -9223372036854775808 ≤ n) (h1 : n ≤ 9223372036854775807) (w : World) (htab : Lib.TabIs Tryz.prog w "internal/strconv.uint64pow10" .u64 Lib.pow10Tab) :
 Calls Tryz.prog 76 #[.int .i64 n] w fun e w' => e = .returned (.string ⟨(Lib.itoa n).toArray⟩) ∧ ∃ k os, w' = grow (w.drewN k) os := Any.strconv_Itoa Tryz.laysM171 n h0 h1 w htab
def Tryz.lays189_ren : Go.Shelf.Ren := ⟨fun | 189 => 43 | 125 => 81 | 257 => 80 | 128 => 129 | 129 => 130 | 294 => 120 | 295 => 121 | 296 => 122 | 297 => 123 | 298 => 124 | 299 => 125 | 216 => 126 | 300 => 127 | 301 => 128 | 328 => 167 | 329 => 168 | 330 => 169 | 331 => 170 | 332 => 171 | 215 => 172 | 343 => 199 | n => n, fun | 28 => 57 | 3 => 3 | 46 => 108 | 0 => 0 | 51 => 176 | 53 => 178 | 4 => 4 | 183 => 170 | 182 => 169 | 131 => 109 | 5 => 5 | 9 => 9 | 218 => 205 | 222 => 209 | 228 => 231 | 229 => 232 | n => n, fun | n => n⟩
theorem Tryz.lays189 : Go.Proofs.Lays.n189 Tryz.prog Tryz.lays189_ren := {
 mixed := by kernel_rfl
 f125 := Tryz.func81.trans (congrArg some (by kernel_rfl))
 f128 := Tryz.func129.trans (congrArg some (by kernel_rfl))
 f129 := Tryz.func130.trans (congrArg some (by kernel_rfl))
 f189 := Tryz.func43.trans (congrArg some (by kernel_rfl))
 f215 := Tryz.func172.trans (congrArg some (by kernel_rfl))
 f216 := Tryz.func126.trans (congrArg some (by kernel_rfl))
 f257 := Tryz.func80.trans (congrArg some (by kernel_rfl))
 f294 := Tryz.func120.trans (congrArg some (by kernel_rfl))
 f295 := Tryz.func121.trans (congrArg some (by kernel_rfl))
 f296 := Tryz.func122.trans (congrArg some (by kernel_rfl))
 f297 := Tryz.func123.trans (congrArg some (by kernel_rfl))
 f298 := Tryz.func124.trans (congrArg some (by kernel_rfl))
 f299 := Tryz.func125.trans (congrArg some (by kernel_rfl))
 f300 := Tryz.func127.trans (congrArg some (by kernel_rfl))
 f301 := Tryz.func128.trans (congrArg some (by kernel_rfl))
 f328 := Tryz.func167.trans (congrArg some (by kernel_rfl))
 f329 := Tryz.func168.trans (congrArg some (by kernel_rfl))
 f330 := Tryz.func169.trans (congrArg some (by kernel_rfl))
 f331 := Tryz.func170.trans (congrArg some (by kernel_rfl))
 f332 := Tryz.func171.trans (congrArg some (by kernel_rfl))
 f343 := Tryz.func199.trans (congrArg some (by kernel_rfl))
 t0 := Tryz.underlying0
 a0 := Tryz.isAgg0
 z0 := Tryz.sizeOf0
 v0 := Tryz.zeroValue0
 t3 := Tryz.underlying3
 a3 := Tryz.isAgg3
 z3 := Tryz.sizeOf3
 v3 := Tryz.zeroValue3
 t4 := Tryz.underlying4
 a4 := Tryz.isAgg4
 z4 := Tryz.sizeOf4
 v4 := Tryz.zeroValue4
 t5 := Tryz.underlying5
 a5 := Tryz.isAgg5
 z5 := Tryz.sizeOf5
 v5 := Tryz.zeroValue5
 t9 := Tryz.underlying9
 a9 := Tryz.isAgg9
 z9 := Tryz.sizeOf9
 v9 := Tryz.zeroValue9
 t28 := Tryz.underlying57
 a28 := Tryz.isAgg57
 z28 := Tryz.sizeOf57
 v28 := Tryz.zeroValue57
 t46 := Tryz.underlying108
 a46 := Tryz.isAgg108
 z46 := Tryz.sizeOf108
 v46 := Tryz.zeroValue108
 t51 := Tryz.underlying176
 a51 := Tryz.isAgg176
 z51 := Tryz.sizeOf176
 v51 := Tryz.zeroValue176
 t53 := Tryz.underlying178
 a53 := Tryz.isAgg178
 z53 := Tryz.sizeOf178
 v53 := Tryz.zeroValue178
 t131 := Tryz.underlying109
 a131 := Tryz.isAgg109
 z131 := Tryz.sizeOf109
 v131 := Tryz.zeroValue109
 t182 := Tryz.underlying169
 a182 := Tryz.isAgg169
 z182 := Tryz.sizeOf169
 v182 := Tryz.zeroValue169
 t183 := Tryz.underlying170
 a183 := Tryz.isAgg170
 z183 := Tryz.sizeOf170
 v183 := Tryz.zeroValue170
 t218 := Tryz.underlying205
 a218 := Tryz.isAgg205
 z218 := Tryz.sizeOf205
 v218 := Tryz.zeroValue205
 t222 := Tryz.underlying209
 a222 := Tryz.isAgg209
 z222 := Tryz.sizeOf209
 v222 := Tryz.zeroValue209
 t228 := Tryz.underlying231
 a228 := Tryz.isAgg231
 z228 := Tryz.sizeOf231
 v228 := Tryz.zeroValue231
 t229 := Tryz.underlying232
 a229 := Tryz.isAgg232
 z229 := Tryz.sizeOf232
 v229 := Tryz.zeroValue232 }
open Go.Sort Go.RowKit in
theorem Tryz.slices_Sort_int (blk off cap : Nat) (zs : List Int) (w : World) (hH : Holds (Value.int .i64) w blk off zs.toArray) (hblk : blk < w.heap.size) (hsz : zs.length < 4611686018427387904) :
 Calls Tryz.prog 43 #[.slice (some ⟨blk, off, none⟩) zs.length cap] w fun e w' =>
  e = .returned (.tuple #[]) ∧ ∃ n os, w' = grow (putRow (Value.int .i64) (Sort.ahead w n) blk off (zs.mergeSort fun x y => decide (x ≤ y)).toArray) os := Any.slices_Sort_int Tryz.lays189 blk off cap zs w hH hblk hsz
def Tryz.lays190_ren : Go.Shelf.Ren := ⟨fun | 190 => 114 | 125 => 81 | 258 => 163 | 128 => 129 | 129 => 130 | 302 => 188 | 303 => 189 | 304 => 190 | 305 => 191 | 306 => 192 | 307 => 193 | 308 => 194 | 309 => 195 | 310 => 196 | 333 => 209 | 329 => 168 | 330 => 169 | 334 => 210 | 335 => 211 | 336 => 212 | 344 => 218 | n => n, fun | 31 => 59 | 9 => 9 | 3 => 3 | 46 => 108 | 0 => 0 | 51 => 176 | 53 => 178 | 4 => 4 | 183 => 170 | 182 => 169 | 131 => 109 | 5 => 5 | 218 => 205 | 222 => 209 | 228 => 231 | 229 => 232 | n => n, fun | n => n⟩
theorem Tryz.lays190 : Go.Proofs.Lays.n190 Tryz.prog Tryz.lays190_ren := {
 mixed := by kernel_rfl
 f125 := Tryz.func81.trans (congrArg some (by kernel_rfl))
 f128 := Tryz.func129.trans (congrArg some (by kernel_rfl))
 f129 := Tryz.func130.trans (congrArg some (by kernel_rfl))
 f190 := Tryz.func114.trans (congrArg some (by kernel_rfl))
 f258 := Tryz.func163.trans (congrArg some (by kernel_rfl))
 f302 := Tryz.func188.trans (congrArg some (by kernel_rfl))
 f303 := Tryz.func189.trans (congrArg some (by kernel_rfl))
 f304 := Tryz.func190.trans (congrArg some (by kernel_rfl))
 f305 := Tryz.func191.trans (congrArg some (by kernel_rfl))
 f306 := Tryz.func192.trans (congrArg some (by kernel_rfl))
 f307 := Tryz.func193.trans (congrArg some (by kernel_rfl))
 f308 := Tryz.func194.trans (congrArg some (by kernel_rfl))
 f309 := Tryz.func195.trans (congrArg some (by kernel_rfl))
 f310 := Tryz.func196.trans (congrArg some (by kernel_rfl))
 f329 := Tryz.func168.trans (congrArg some (by kernel_rfl))
 f330 := Tryz.func169.trans (congrArg some (by kernel_rfl))
 f333 := Tryz.func209.trans (congrArg some (by kernel_rfl))
 f334 := Tryz.func210.trans (congrArg some (by kernel_rfl))
 f335 := Tryz.func211.trans (congrArg some (by kernel_rfl))
 f336 := Tryz.func212.trans (congrArg some (by kernel_rfl))
 f344 := Tryz.func218.trans (congrArg some (by kernel_rfl))
 t0 := Tryz.underlying0
 a0 := Tryz.isAgg0
 z0 := Tryz.sizeOf0
 v0 := Tryz.zeroValue0
 t3 := Tryz.underlying3
 a3 := Tryz.isAgg3
 z3 := Tryz.sizeOf3
 v3 := Tryz.zeroValue3
 t4 := Tryz.underlying4
 a4 := Tryz.isAgg4
 z4 := Tryz.sizeOf4
 v4 := Tryz.zeroValue4
 t5 := Tryz.underlying5
 a5 := Tryz.isAgg5
 z5 := Tryz.sizeOf5
 v5 := Tryz.zeroValue5
 t9 := Tryz.underlying9
 a9 := Tryz.isAgg9
 z9 := Tryz.sizeOf9
 v9 := Tryz.zeroValue9
 t31 := Tryz.underlying59
 a31 := Tryz.isAgg59
 z31 := Tryz.sizeOf59
 v31 := Tryz.zeroValue59
 t46 := Tryz.underlying108
 a46 := Tryz.isAgg108
 z46 := Tryz.sizeOf108
 v46 := Tryz.zeroValue108
 t51 := Tryz.underlying176
 a51 := Tryz.isAgg176
 z51 := Tryz.sizeOf176
 v51 := Tryz.zeroValue176
 t53 := Tryz.underlying178
 a53 := Tryz.isAgg178
 z53 := Tryz.sizeOf178
 v53 := Tryz.zeroValue178
 t131 := Tryz.underlying109
 a131 := Tryz.isAgg109
 z131 := Tryz.sizeOf109
 v131 := Tryz.zeroValue109
 t182 := Tryz.underlying169
 a182 := Tryz.isAgg169
 z182 := Tryz.sizeOf169
 v182 := Tryz.zeroValue169
 t183 := Tryz.underlying170
 a183 := Tryz.isAgg170
 z183 := Tryz.sizeOf170
 v183 := Tryz.zeroValue170
 t218 := Tryz.underlying205
 a218 := Tryz.isAgg205
 z218 := Tryz.sizeOf205
 v218 := Tryz.zeroValue205
 t222 := Tryz.underlying209
 a222 := Tryz.isAgg209
 z222 := Tryz.sizeOf209
 v222 := Tryz.zeroValue209
 t228 := Tryz.underlying231
 a228 := Tryz.isAgg231
 z228 := Tryz.sizeOf231
 v228 := Tryz.zeroValue231
 t229 := Tryz.underlying232
 a229 := Tryz.isAgg232
 z229 := Tryz.sizeOf232
 v229 := Tryz.zeroValue232 }
open Go.Sort Go.RowKit in
theorem Tryz.slices_Sort_string (blk off cap : Nat) (ss : List (List UInt8)) (w : World) (hH : Holds encStr w blk off ss.toArray) (hblk : blk < w.heap.size) (hsz : ss.length < 4611686018427387904) :
 Calls Tryz.prog 114 #[.slice (some ⟨blk, off, none⟩) ss.length cap] w fun e w' =>
  e = .returned (.tuple #[]) ∧ ∃ n os, w' = grow (putRow encStr (Sort.ahead w n) blk off (ss.mergeSort fun x y => decide (x ≤ y)).toArray) os := Any.slices_Sort_string Tryz.lays190 blk off cap ss w hH hblk hsz
def Tryz.lays111_ren : Go.Shelf.Ren := ⟨fun | 111 => 83 | n => n, fun | 28 => 57 | 3 => 3 | 4 => 4 | 0 => 0 | n => n, fun | n => n⟩
theorem Tryz.lays111 : Go.Proofs.Lays.n111 Tryz.prog Tryz.lays111_ren := {
 mixed := by kernel_rfl
 f111 := Tryz.func83.trans (congrArg some (by kernel_rfl))
 t0 := Tryz.underlying0
 a0 := Tryz.isAgg0
 z0 := Tryz.sizeOf0
 v0 := Tryz.zeroValue0
 t3 := Tryz.underlying3
 a3 := Tryz.isAgg3
 z3 := Tryz.sizeOf3
 v3 := Tryz.zeroValue3
 t4 := Tryz.underlying4
 a4 := Tryz.isAgg4
 z4 := Tryz.sizeOf4
 v4 := Tryz.zeroValue4
 t28 := Tryz.underlying57
 a28 := Tryz.isAgg57
 z28 := Tryz.sizeOf57
 v28 := Tryz.zeroValue57 }
open Go.RowKit Go.Lib in
theorem Tryz.slices_Equal_int (b1 o1 n c b2 o2 m d : Nat) (xs ys : List Int) (w : World) (hx : n ≤ xs.length) (hy : m ≤ ys.length) (hbig : n ≤ 9223372036854775807) (hbig2 : m ≤ 9223372036854775807) (hc1 : ∀ j, j < xs.length → w.cell? ⟨b1, o1 + j, none⟩ = some (.int .i64 (xs.getD j 0))) (hc2 : ∀ j, j < ys.length → w.cell? ⟨b2, o2 + j, none⟩ = some (.int .i64 (ys.getD j 0))) :
 Calls Tryz.prog 83 #[.slice (some ⟨b1, o1, none⟩) n c, .slice (some ⟨b2, o2, none⟩) m d] w fun e w' => e = .returned (.bool (xs.take n == ys.take m)) ∧ ∃ q, w' = w.drewN q := Any.slices_Equal_int Tryz.lays111 b1 o1 n c b2 o2 m d xs ys w hx hy hbig hbig2 hc1 hc2
open Go.RowKit Go.Lib in
theorem Tryz.slices_Equal_int_empty (a1 a2 : Option Addr) (c m d : Nat) (w : World) (hbig2 : m ≤ 9223372036854775807) :
 Calls Tryz.prog 83 #[.slice a1 0 c, .slice a2 m d] w fun e w' => e = .returned (.bool (decide (m = 0))) ∧ w' = w := Any.slices_Equal_int_empty Tryz.lays111 a1 a2 c m d w hbig2
open Go.RowKit Go.Sort in
theorem Tryz.slices_Sort_string_none (p : Option Addr) (cap : Nat) (w : World) :
 Calls Tryz.prog 114 #[.slice p 0 cap] w fun e w' => e = .returned (.tuple #[]) ∧ w' = w := Any.slices_Sort_string_none Tryz.lays190 p cap w
open Go.RowKit Go.Sort in
theorem Tryz.slices_Sort_int_none (p : Option Addr) (cap : Nat) (w : World) :
 Calls Tryz.prog 43 #[.slice p 0 cap] w fun e w' => e = .returned (.tuple #[]) ∧ w' = w := Any.slices_Sort_int_none Tryz.lays189 p cap w
open Go.RowKit Go.Lib in
theorem Tryz.slices_Equal_int_lens (a1 a2 : Option Addr) (n c m d : Nat) (w : World) (hnm : n ≠ m) :
 Calls Tryz.prog 83 #[.slice a1 n c, .slice a2 m d] w fun e w' => e = .returned (.bool false) ∧ w' = w := Any.slices_Equal_int_lens Tryz.lays111 a1 a2 n c m d w hnm
end Go.Proofs
namespace Go.Proofs.YtnacjhnfkkddcaaGreatDoor
open Go.RowKit
theorem g_pow : Tryz.prog.globalNamed "internal/strconv.uint64pow10" = some 4 := by kernel_rfl
structure Tb (w : World) : Prop where
 pow : Lib.TabIs Tryz.prog w "internal/strconv.uint64pow10" .u64 Lib.pow10Tab
theorem Tb.on {w w' : World} (h : Tb w) (hb : Below w.heap.size w w') : Tb w' := ⟨Joins.tab_stays g_pow h.pow hb (Nat.le_refl _)⟩
theorem jgw (w : World) (k : Nat) (os : Array Obj) : Below w.heap.size w (Go.Sort.grow (w.drewN k) os) :=
 ⟨rfl, rfl, rfl, by show w.heap.size ≤ (w.heap ++ os).size; rw [Array.size_append]; omega, fun j hj => by show (w.heap ++ os)[j]? = _; rw [Array.getElem?_append_left hj]⟩
theorem jnw (n : Int) (hn : Spc.i64 n) (w : World) (ht : Tb w) : Calls Tryz.prog 76 #[.int .i64 n] w (APos w (.string (txt (Spc.digs n)))) := by
 refine (Tryz.strconv_Itoa n hn.1 hn.2 w ht.pow).mono ?_
 rintro e w' ⟨rfl, k, os, rfl⟩
 rw [Spc.itoa_txt]
 exact ⟨rfl, jgw _ _ _⟩
open Go
def jlf {H : Type} : DataW H → List Value
 | .lit (.int k n) => [.int k n]
 | .lit (.bool b) => [.bool b]
 | .lit (.string l) => [.string ⟨l.toArray⟩]
 | _ => []
def jnx {H : Type} : DataW H → List Value
 | .agg ds => ds.flatMap jlf
 | d => jlf d
def leaf3 {H : Type} : DataW H → List Value
 | .agg ds => ds.flatMap jnx
 | d => jnx d
section
variable {H : Type} {enc : TypeId × Value → H} {P : Program} {w : World} {base : Nat} {spare : Nat → Bool} {held : Bool} {t e : TypeId}
def jlg (enc : TypeId × Value → H) (P : Program) (w : World) (base : Nat) (spare : Nat → Bool) (held : Bool) (t : TypeId) (L : DataW H → List Value) : Prop :=
 ∀ fuel cs x, DataW.trod enc P w base spare held fuel t cs = some x → cs = L x.1
theorem jlh {k : IntKind} (he : P.underlying t = some (.int k)) : jlg enc P w base spare held t jlf := fun fuel cs x h => by
 obtain ⟨n, rfl, rfl, _⟩ := DataW.trod_int he h
 rfl
theorem jli (he : P.underlying t = some .string) : jlg enc P w base spare held t jlf := fun fuel cs x h => by
 cases fuel with
 | zero => simp [DataW.trod] at h
 | succ m =>
  unfold DataW.trod at h
  rw [he] at h
  split at h <;> simp_all
  obtain ⟨_, h⟩ := h
  subst h
  rfl
theorem chunks {k n : Nat} : ∀ {cs : List Value}, cs.length = n * k → ∀ {c : Nat → List Value}, (∀ i, i < n → (cs.drop (i * k)).take k = c i) → cs = (List.range n).flatMap c := by
 induction n with
 | zero =>
  intro cs hl c _
  rw [Nat.zero_mul] at hl
  rw [List.length_eq_zero_iff.1 hl]
  rfl
 | succ n ih =>
  intro cs hl c hc
  have h0 := hc 0 (by omega)
  rw [Nat.zero_mul, List.drop_zero] at h0
  have hl2 : (cs.drop k).length = n * k := by rw [List.length_drop, hl, Nat.succ_mul]; omega
  have h1 := ih hl2 (c := fun i => c (i + 1)) (fun i hi => by
   have := hc (i + 1) (by omega)
   rw [← this, List.drop_drop, Nat.succ_mul, Nat.add_comm])
  rw [List.range_succ_eq_map, List.flatMap_cons, List.flatMap_map, ← h0]
  conv => lhs; rw [← List.take_append_drop k cs]
  rw [h1]
theorem jeu {n : Nat} {L L2 : DataW H → List Value} (hL : ∀ ds, L2 (.agg ds) = ds.flatMap L) (he : jlg enc P w base spare held e L) (ht : P.underlying t = some (.array n e)) (hc : P.cellsOf t = n * P.cellsOf e) : jlg enc P w base spare held t L2 := fun fuel cs x h => by
 obtain ⟨xs, m, rfl, rfl, hl, hxl, hi⟩ := DataW.trod_array ht h
 rw [hc] at hl
 have h2 := chunks hl (c := fun i => L ((xs.map (·.1)).getD i .nil)) (fun i hi2 => by
  have h3 := hi i hi2
  have h4 : xs[i]? = some (xs[i]'(by omega)) := List.getElem?_eq_getElem _
  rw [h4] at h3
  have h5 := he _ _ _ h3
  rw [h5, List.getD_eq_getElem?_getD, List.getElem?_map, h4]
  rfl)
 show cs = L2 (.agg (xs.map (·.1)))
 rw [hL]
 rw [h2]
 have : ∀ (ds : List (DataW H)), (List.range ds.length).flatMap (fun i => L (ds.getD i .nil)) = ds.flatMap L := by
  intro ds
  induction ds with
  | nil => rfl
  | cons d ds ih =>
   rw [List.length_cons, List.range_succ_eq_map, List.flatMap_cons, List.flatMap_map, List.flatMap_cons]
   congr 1
 have h6 := this (xs.map (·.1))
 rw [List.length_map, hxl] at h6
 exact h6
end
def je7 (P : Program) (w : World) (name : String) (cs : List Value) : Prop := w.var? P name = some cs.toArray
theorem jil {P : Program} {W : World} {name : String} {d : DataW Unit} {l : List (String × DataW Unit)} {g : Nat} {t : TypeId} {L : DataW Unit → List Value} (hm : laidMet P l W) (hd : (name, d) ∈ l) (hg : P.globalNamed name = some g) (hty : (P.globals[g]?).map (·.type) = some t)
  (hT : ∀ w base spare held, jlg (fun _ => ()) P w base spare held t L) : je7 P W name (L d) := by
 obtain ⟨g', t', cs, fuel, p, h1, h2, h3, h4⟩ := Lib.laidMet.reads hm hd
 rw [hg] at h1
 obtain rfl := Option.some.inj h1
 rw [hty] at h2
 obtain rfl := Option.some.inj h2
 have := hT _ _ _ _ _ _ _ h4
 unfold je7
 rw [h3, ← this]
theorem je7.on {P : Program} {w w' : World} {name : String} {cs : List Value} {g : Nat} (hg : P.globalNamed name = some g) (h : je7 P w name cs) (hb : Below w.heap.size w w') : je7 P w' name cs := Joins.var_stays hg h hb (Nat.le_refl _)
theorem je7.cell {P : Program} {w : World} {name : String} {cs : List Value} {g : Nat} (hg : P.globalNamed name = some g) (h : je7 P w name cs) {i : Nat} {v : Value} (hi : cs[i]? = some v) : w.cell? ⟨g, i, none⟩ = some v := by
 unfold je7 World.var? at h
 rw [hg] at h
 simp only [Option.bind_some] at h
 split at h
 ·rename_i c T fr hh
  obtain rfl := Option.some.inj h
  rw [cell_of_row w g i _ _ _ hh]
  simpa using hi
 ·cases h
end Go.Proofs.YtnacjhnfkkddcaaGreatDoor
namespace Go.Proofs.YtnacjhnfkkddcaaGreatDoor
open Go.RowKit
theorem jh7 : Tryz.prog.globalNamed "pacesetter/phase.leads" = some 1 := by kernel_rfl
theorem jfx : Tryz.prog.globalNamed "pacesetter/phase.words" = some 0 := by kernel_rfl
def jny (p e : Int) : Int := if Ph.to_ p e = -1 then 0 else Ph.to_ p e
theorem jnz {p e : Int} (h : Ph.to_ p e = -1) : jny p e = 0 := if_pos h
theorem jlj {p e : Int} (h : Ph.to_ p e ≠ -1) : jny p e = Ph.to_ p e := if_neg h
theorem to_pos {p e : Int} (h : Ph.to_ p e ≠ -1) : Ph.to_ p e ≠ 0 := by
 rcases Ph.pairs h with ⟨rfl, rfl⟩ | ⟨rfl, rfl⟩ | ⟨rfl, rfl⟩ | ⟨rfl, rfl⟩ | ⟨rfl, rfl⟩ | ⟨rfl, rfl⟩ | ⟨rfl, rfl⟩ | ⟨rfl, rfl⟩ | ⟨rfl, rfl⟩ | ⟨rfl, rfl⟩ | ⟨rfl, rfl⟩ | ⟨rfl, rfl⟩
 all_goals decide
def jlk : List Value := [0, 1, 2, 3, 4, 5].flatMap fun p => [0, 1, 2, 3, 4, 5, 6, 7, 8].map fun e => .int .i64 (jny p e)
def jll : List Value := [0, 1, 2, 3, 4, 5, 6, 7, 8].map fun e => .string (Ph.word e)
structure PT (w : World) : Prop where
 leads : je7 Tryz.prog w "pacesetter/phase.leads" jlk
 words : je7 Tryz.prog w "pacesetter/phase.words" jll
theorem PT.on {w w' : World} (h : PT w) (hb : Below w.heap.size w w') : PT w' := ⟨h.leads.on jh7 hb, h.words.on jfx hb⟩
theorem jlm (p e : Nat) (hp : p < 6) (he : e < 9) : jlk[p * 9 + e]? = some (.int .i64 (jny p e)) := by
 rcases p with _ | _ | _ | _ | _ | _ | p
 all_goals first | omega | skip
 all_goals rcases e with _ | _ | _ | _ | _ | _ | _ | _ | _ | e
 all_goals first | rfl | omega
theorem jgx (p : Nat) (hp : p < 9) : jll[p]? = some (.string (Ph.word p)) := by
 rcases p with _ | _ | _ | _ | _ | _ | _ | _ | _ | p
 all_goals first | rfl | omega
theorem jn0 (n : Int) (w : World) : Calls Tryz.prog 160 #[.int .i64 n] w fun x w' => x = .returned (.bool (decide (0 ≤ n) && decide (n < 6))) ∧ w' = w := by
 by_cases h1 : 0 ≤ n
 ·by_cases h2 : n < 6
  ·rw [decide_eq_true h1, decide_eq_true h2]
   go_enter Tryz.func160, Tryz.ntmps160
   go_wp2_with fail
   go_ret
   exact ⟨rfl, rfl⟩
  ·rw [decide_eq_true h1, decide_eq_false h2]
   go_enter Tryz.func160, Tryz.ntmps160
   go_wp2_with fail
   go_ret
   exact ⟨rfl, rfl⟩
 ·rw [decide_eq_false h1]
  go_enter Tryz.func160, Tryz.ntmps160
  go_wp2_with fail
  go_ret
  exact ⟨rfl, rfl⟩
theorem jim (n : Int) (w : World) : Calls Tryz.prog 161 #[.int .i64 n] w fun x w' => x = .returned (.bool (decide (0 ≤ n) && decide (n < 9))) ∧ w' = w := by
 by_cases h1 : 0 ≤ n
 ·by_cases h2 : n < 9
  ·rw [decide_eq_true h1, decide_eq_true h2]
   go_enter Tryz.func161, Tryz.ntmps161
   go_wp2_with fail
   go_ret
   exact ⟨rfl, rfl⟩
  ·rw [decide_eq_true h1, decide_eq_false h2]
   go_enter Tryz.func161, Tryz.ntmps161
   go_wp2_with fail
   go_ret
   exact ⟨rfl, rfl⟩
 ·rw [decide_eq_false h1]
  go_enter Tryz.func161, Tryz.ntmps161
  go_wp2_with fail
  go_ret
  exact ⟨rfl, rfl⟩
theorem jln (p e : Int) (hp : i64P p) (he : i64P e) (w : World) (ht : PT w) : Calls Tryz.prog 110 #[.int .i64 p, .int .i64 e] w (jdy w (.int .i64 (Ph.next p e)) (.bool (Ph.did p e))) := by
 have B := zh (Below.refl w.heap.size w)
 have CI := zh (fun n W => jn0 n W)
 have CJ := zh (fun n W => jim n W)
 by_cases h1 : 0 ≤ p ∧ p < 6
 ·obtain ⟨k, rfl⟩ := Int.eq_ofNat_of_zero_le h1.1
  by_cases h2 : 0 ≤ e ∧ e < 9
  ·obtain ⟨j, rfl⟩ := Int.eq_ofNat_of_zero_le h2.1
   have hc := ht.leads.cell jh7 (jlm k j (by omega) (by omega))
   have hi := fun W => CI.out (k : Int) W
   have hj := fun W => CJ.out (j : Int) W
   rw [decide_eq_true h1.1, decide_eq_true h1.2] at hi
   rw [decide_eq_true h2.1, decide_eq_true h2.2] at hj
   have HI := zh hi
   have HJ := zh hj
   have a1 := h1.1
   have a2 := h1.2
   have a3 := h2.1
   have a4 := h2.2
   clear hi hj CI CJ ht hp he h1 h2
   by_cases hd : Ph.to_ (k : Nat) (j : Nat) = -1
   ·rw [(Ph.next_no hd).1, (Ph.next_no hd).2]
    rw [jnz hd] at hc
    clear hd
    go_enter Tryz.func110, Tryz.ntmps110
    go_wp2_with (first
     | (go_at_call 160; (with_reducible refine (HI.out _).mono ?_); rintro x w1 ⟨rfl, rfl⟩)
     | (go_at_call 161; (with_reducible refine (HJ.out _).mono ?_); rintro x w1 ⟨rfl, rfl⟩))
    go_ret2
    exact ⟨rfl, B.out⟩
   ·rw [(Ph.next_yes rfl hd).1, (Ph.next_yes rfl hd).2]
    have hq : (Ph.to_ (k : Nat) (j : Nat) == 0) = false := by rw [beq_eq_false_iff_ne]; exact to_pos hd
    rw [jlj hd] at hc
    clear hd
    generalize Ph.to_ (k : Nat) (j : Nat) = x at *
    go_enter Tryz.func110, Tryz.ntmps110
    go_wp2_with (first
     | (go_at_call 160; (with_reducible refine (HI.out _).mono ?_); rintro x w1 ⟨rfl, rfl⟩)
     | (go_at_call 161; (with_reducible refine (HJ.out _).mono ?_); rintro x w1 ⟨rfl, rfl⟩))
    go_ret2
    exact ⟨rfl, B.out⟩
  ·have hf := Ph.far (p := (k : Nat)) (e := e) (.inr (by omega))
   rw [(Ph.next_no hf).1, (Ph.next_no hf).2]
   have hi := fun W => CI.out (k : Int) W
   have hj := fun W => CJ.out e W
   rw [decide_eq_true h1.1, decide_eq_true h1.2] at hi
   have hz : (decide (0 ≤ e) && decide (e < 9)) = false := by rw [Bool.and_eq_false_iff, decide_eq_false_iff_not, decide_eq_false_iff_not]; omega
   rw [hz] at hj
   have HI := zh hi
   have HJ := zh hj
   clear hi hj CI CJ ht hp he h1 h2 hz hf
   go_enter Tryz.func110, Tryz.ntmps110
   go_wp2_with (first
    | (go_at_call 160; (with_reducible refine (HI.out _).mono ?_); rintro x w1 ⟨rfl, rfl⟩)
    | (go_at_call 161; (with_reducible refine (HJ.out _).mono ?_); rintro x w1 ⟨rfl, rfl⟩))
   go_ret2
   exact ⟨rfl, B.out⟩
 ·have hf := Ph.far (p := p) (e := e) (.inl (by omega))
  rw [(Ph.next_no hf).1, (Ph.next_no hf).2]
  have hi := fun W => CI.out p W
  have hz : (decide (0 ≤ p) && decide (p < 6)) = false := by rw [Bool.and_eq_false_iff, decide_eq_false_iff_not, decide_eq_false_iff_not]; omega
  rw [hz] at hi
  have HI := zh hi
  clear hi CI CJ ht hp he h1 hz hf
  go_enter Tryz.func110, Tryz.ntmps110
  go_wp2_with (go_at_call 160; (with_reducible refine (HI.out _).mono ?_); rintro x w1 ⟨rfl, rfl⟩)
  go_ret2
  exact ⟨rfl, B.out⟩
theorem jlo {n : Int} (h : -1000 ≤ n ∧ n ≤ 1000) : i64P n := by unfold i64P; omega
theorem jlp (p : Int) (w : World) (ht : PT w) : Calls Tryz.prog 111 #[.int .i64 p] w (jbb w (.string (Ph.word p))) := by
 have B := zh (Below.refl w.heap.size w)
 have hi := fun W => jim p W
 by_cases h1 : 0 ≤ p ∧ p < 9
 ·obtain ⟨k, rfl⟩ := Int.eq_ofNat_of_zero_le h1.1
  have hc := ht.words.cell jfx (jgx k (by omega))
  rw [decide_eq_true h1.1, decide_eq_true h1.2] at hi
  have HI := zh hi
  have a1 := h1.1
  have a2 := h1.2
  clear hi ht h1
  generalize Ph.word (k : Nat) = u at *
  go_enter Tryz.func111, Tryz.ntmps111
  go_wp2_with (go_at_call 161; (with_reducible refine (HI.out _).mono ?_); rintro x w1 ⟨rfl, rfl⟩)
  go_ret
  exact ⟨rfl, B.out⟩
 ·rw [Ph.word_none (by omega)]
  have hz : (decide (0 ≤ p) && decide (p < 9)) = false := by rw [Bool.and_eq_false_iff, decide_eq_false_iff_not, decide_eq_false_iff_not]; omega
  rw [hz] at hi
  have HI := zh hi
  clear hi ht h1 hz
  go_enter Tryz.func111, Tryz.ntmps111
  go_wp2_with (go_at_call 161; (with_reducible refine (HI.out _).mono ?_); rintro x w1 ⟨rfl, rfl⟩)
  go_ret
  exact ⟨rfl, B.out⟩
theorem pof_any (t : ByteArray) (w : World) (ht : PT w) : Calls Tryz.prog 109 #[.string t] w (jdy w (.int .i64 (Ph.of t)) (.bool (Ph.isWord t))) := by
 have HW := zh (fun j (hj : j < 9) => ht.words.cell jfx (jgx j hj))
 have B := zh (Below.refl w.heap.size w)
 clear ht
 go_enter Tryz.func109, Tryz.ntmps109
 go_wp2_with fail
 go_loopw [5] (fun i wr => ∃ k : Nat, k ≤ 9 ∧ i = .int .i64 k ∧ (∀ j, j < k → Ph.word (j : Nat) ≠ t) ∧ wr = w) (fun i _ => 9 - (intOf i).toNat)
 case atStart => exact ⟨0, by omega, rfl, fun j hj => by omega, rfl⟩
 case round =>
  obtain ⟨k, hk, rfl, hj, rfl⟩ := hrel
  have HJ := zh hj
  clear hj
  by_cases hlt : k < 9
  ·have hi : (k : Int) < 9 := by omega
   have hc := HW.out k hlt
   by_cases he : Ph.word (k : Nat) = t
   ·have hts : ((Ph.word (k : Nat)).toList == t.toList) = true := by rw [jbv]; exact decide_eq_true he
    have EP : Hid (Ph.place t = k) := Ph.place_is t hlt he HJ.out
    clear he
    generalize Ph.word (k : Nat) = u at *
    go_wp2_with fail
    go_ret2
    refine ⟨?_, B.out⟩
    have h1 : Ph.of t = (k : Nat) := by unfold Ph.of; rw [EP.out, if_pos hlt]
    have h2 : Ph.isWord t = true := by unfold Ph.isWord; rw [EP.out]; exact decide_eq_true hlt
    rw [h1, h2]
    rfl
   ·have hts : ((Ph.word (k : Nat)).toList == t.toList) = false := by rw [jbv]; exact decide_eq_false he
    have HE := zh he
    clear he
    generalize hu : Ph.word (k : Nat) = u at *
    have HU := zh hu
    clear hu
    go_wp2_with fail
    refine ⟨⟨k + 1, by omega, by go_num, fun j hj => ?_, trivial⟩, by simp [intOf]; omega⟩
    by_cases e : j = k
    ·subst e; rw [HU.out]; exact HE.out
    ·exact HJ.out j (by omega)
  ·obtain rfl : k = 9 := by omega
   have EP : Hid (Ph.place t = 9) := Ph.place_none t HJ.out
   go_wp2_with fail
   go_ret2
   refine ⟨?_, B.out⟩
   have h1 : Ph.of t = 0 := by unfold Ph.of; rw [EP.out, if_neg (by omega)]
   have h2 : Ph.isWord t = false := by unfold Ph.isWord; rw [EP.out]; exact decide_eq_false (by omega)
   rw [h1, h2]
   rfl
theorem jlq (p : Int) (w : World) : Calls Tryz.prog 107 #[.int .i64 p] w (jbb w (.bool (Ph.open_ p))) := by
 have B := zh (Below.refl w.heap.size w)
 by_cases h : p = 1 ∨ p = 2 ∨ p = 4
 ·rcases h with rfl | rfl | rfl
  all_goals
   go_enter Tryz.func107, Tryz.ntmps107
   go_wp2_with fail
   go_ret
   exact ⟨rfl, B.out⟩
 ·rw [show Ph.open_ p = false from by unfold Ph.open_; simp; omega]
  have q1 : (p == 1) = false := by rw [beq_eq_false_iff_ne]; omega
  have q2 : (p == 2) = false := by rw [beq_eq_false_iff_ne]; omega
  have q4 : (p == 4) = false := by rw [beq_eq_false_iff_ne]; omega
  clear h
  go_enter Tryz.func107, Tryz.ntmps107
  go_wp2_with fail
  go_ret
  exact ⟨rfl, B.out⟩open Go.Maps
structure BT (w : World) : Prop where
 pow : Tb w
 ph : PT w
theorem BT.on {w w' : World} (h : BT w) (hb : Below w.heap.size w w') : BT w' := ⟨h.pow.on hb, h.ph.on hb⟩
structure BdIs (w : World) (q : Nat) (s : Bk.St) (ru : Nat → Bk.Un) (rv : Int) (lo ko : Option Nat) (H : Value) (K : Kv.St) : Prop where
 at_ : BdAt w q s ru rv (.map lo) (.map ko) H
 ls : LM.Opt w lo (Ls.zOf (Bd.tab s).l) (Bd.tab s).l.length
 kv : MapO w ko K.l
 kg : Kv.Good K
 kr : K.rev = rv
 kb : rv ≤ s.vs.length
 dg : Bd.Digs K s.vs
 raw : Bd.Raw ru s.us
 h : OwF Bk.rcC 18 53 w 0 H s.h
 lk : ∀ m, lo = some m → ko ≠ some m
 lok : Bd.Lok s
section
variable {w w' : World} {q : Nat} {s : Bk.St} {ru : Nat → Bk.Un} {rv : Int} {lo ko : Option Nat} {H : Value} {K : Kv.St}
theorem jjp {H : Value} {e : TypeId} {w : World} {B : Nat} {l : List Rc.R} (h : OwF Bk.rcC 18 e w B H l) : ∀ t, H ≠ .string t := by
 obtain ⟨A, c, rfl⟩ := h.form
 intro t e
 cases e
theorem BdIs.lsIs (h : BdIs w q s ru rv lo ko H K) : LsIs w q (Bd.cells s ru rv (.map lo) (.map ko) H) 85 lo (Bd.tab s) := by
 refine ⟨h.at_.row, rfl, rfl, h.ls, Bd.tab_good h.lok, fun e he => ?_, ?_⟩
 ·have := h.lok.ok.ep
  unfold Bd.tab at he
  by_cases h0 : s.ep = 0
  ·simp [h0] at he
  ·simp only [if_neg h0, List.mem_singleton] at he
   subst he
   show s.ep ≤ _
   omega
 ·unfold Bd.tab
  show (if s.ep = 0 then [] else [_]).length ≤ _
  split <;> simp
theorem BdIs.kvIs (h : BdIs w q s ru rv lo ko H K) : KvIs w q 2 (Bd.cells s ru rv (.map lo) (.map ko) H) 85 ko K :=
 ⟨h.at_.row, by rw [h.kr]; rfl, rfl, Bd.nostr (fun t e => by cases e) (fun t e => by cases e) (jjp h.h), h.kv, h.kg⟩
theorem BdIs.qh (h : BdIs w q s ru rv lo ko H K) : H.ownBlock ≠ some q := by
 intro e
 rcases h.h.2 with ⟨rfl, _⟩ | ⟨g, cap, cur, rfl, hg, hh, r⟩
 ·cases e
 ·have e2 : g = q := by injection e
  subst e2
  have := h.at_.row
  rw [hh] at this
  injection this with this
  injection this with _ this
  exact absurd this (by decide)
theorem BdIs.ql (h : BdIs w q s ru rv lo ko H K) : lo ≠ some q := fun e => (LsIs.ne (e ▸ h.lsIs)) rfl
theorem BdIs.qk (h : BdIs w q s ru rv lo ko H K) : ko ≠ some q := fun e => (KvIs.ne (e ▸ h.kvIs)) rfl
theorem jjq {w : World} {m : Nat} {l : List Kv.En} (h : MapO w (some m) l) : ∃ es clock, w.heap[m]? = some (.map es clock) := by
 obtain ⟨D, ⟨es, clock, hb, _⟩, _⟩ := show jbm Tryz.prog 9 w m l from h
 exact ⟨es, clock, hb⟩
theorem BdIs.hl (h : BdIs w q s ru rv lo ko H K) : ∀ m, lo = some m → H.ownBlock ≠ some m := by
 intro m e e2
 subst e
 obtain ⟨es, clock, hb⟩ := MapW.At.block (M := LM) h.ls
 rcases h.h.2 with ⟨rfl, _⟩ | ⟨g, cap, cur, rfl, hg, hh, r⟩
 ·cases e2
 ·have e3 : g = m := by injection e2
  subst e3
  rw [hh] at hb
  injection hb with hb
  cases hb
theorem BdIs.hk (h : BdIs w q s ru rv lo ko H K) : ∀ m, ko = some m → H.ownBlock ≠ some m := by
 intro m e e2
 subst e
 obtain ⟨es, clock, hb⟩ := jjq h.kv
 rcases h.h.2 with ⟨rfl, _⟩ | ⟨g, cap, cur, rfl, hg, hh, r⟩
 ·cases e2
 ·have e3 : g = m := by injection e2
  subst e3
  rw [hh] at hb
  injection hb with hb
  cases hb
theorem BdIs.keep (h : BdIs w q s ru rv lo ko H K) (h1 : w'.heap[q]? = w.heap[q]?) (h2 : ∀ m, lo = some m → w'.heap[m]? = w.heap[m]?) (h3 : ∀ m, ko = some m → w'.heap[m]? = w.heap[m]?) (h4 : ∀ m, H.ownBlock = some m → w'.heap[m]? = w.heap[m]?) : BdIs w' q s ru rv lo ko H K :=
 { h with at_ := h.at_.keep h1, ls := h.ls.keep h2, kv := h.kv.keep h3, h := h.h.keep h4 }
theorem BdIs.lt (h : BdIs w q s ru rv lo ko H K) : q < w.heap.size ∧ (∀ m, lo = some m → m < w.heap.size) ∧ (∀ m, ko = some m → m < w.heap.size) ∧ ∀ m, H.ownBlock = some m → m < w.heap.size :=
 ⟨h.at_.lt, fun m e => by subst e; exact MapW.Opt.lt h.ls, fun m e => by subst e; exact MapO.lt h.kv, fun m e => (h.h.lt m e).2⟩
theorem BdIs.on (h : BdIs w q s ru rv lo ko H K) (hb : Below w.heap.size w w') : BdIs w' q s ru rv lo ko H K :=
 h.keep (hb.block q h.lt.1) (fun m e => hb.block m (h.lt.2.1 m e)) (fun m e => hb.block m (h.lt.2.2.1 m e)) (fun m e => hb.block m (h.lt.2.2.2 m e))
theorem BdIs.form (h : BdIs w q s ru rv lo ko H K) : ∃ A c, H = .slice A s.h.length c := h.h.form
def BdF (q : Nat) (lo ko : Option Nat) (H : Value) (i : Nat) : Prop := i = q ∨ lo = some i ∨ ko = some i ∨ H.ownBlock = some i
theorem BdIs.ltF (h : BdIs w q s ru rv lo ko H K) : ∀ i, BdF q lo ko H i → i < w.heap.size := by
 rintro i (rfl | e | e | e)
 ·exact h.lt.1
 ·exact h.lt.2.1 i e
 ·exact h.lt.2.2.1 i e
 ·exact h.lt.2.2.2 i e
end
def BdP : jja := fun w X q s => ∃ ru rv lo ko H K, BdIs w q s ru rv lo ko H K ∧ (∀ i, BdF q lo ko H i → X i) ∧ ∀ i, X i → i < w.heap.size
def jaw (q : Nat) (lo ko : Option Nat) (H : Value) (s' : Bk.St) (v : Value) (W : World) (e : Ending) (w' : World) : Prop :=
 ∃ ru' rv' lo' ko' H' K', e = .returned v ∧ BdIs w' q s' ru' rv' lo' ko' H' K' ∧ Kept (BdF q lo ko H) W w' ∧ ∀ i, BdF q lo' ko' H' i → BdF q lo ko H i ∨ W.heap.size ≤ i
section
variable {W W1 w' : World} {X : Nat → Prop} {q : Nat} {s s' : Bk.St} {ru : Nat → Bk.Un} {rv : Int} {lo ko : Option Nat} {H : Value} {K : Kv.St} {v : Value} {e : Ending}
theorem jaw.turn (hX : ∀ i, BdF q lo ko H i → X i) (hl : ∀ i, X i → i < W.heap.size) (h : jaw q lo ko H s' v W e w') : BTurn BdP X q s' v W e w' := by
 obtain ⟨ru', rv', lo', ko', H', K', h1, h2, h3, h4⟩ := h
 refine ⟨fun i => X i ∨ BdF q lo' ko' H' i, h1, ⟨ru', rv', lo', ko', H', K', h2, fun i hi => .inr hi, fun i hi => ?_⟩, fun i hi => ?_, h3.more fun i _ hi => hX i hi⟩
 ·rcases hi with hi | hi
  ·exact Nat.lt_of_lt_of_le (hl i hi) h3.size
  ·exact h2.ltF i hi
 ·rcases hi with hi | hi
  ·exact .inl hi
  ·rcases h4 i hi with h5 | h5
   ·exact .inl (hX i h5)
   ·exact .inr h5
theorem jaw.stay (h : BdIs W q s ru rv lo ko H K) (hb : Below W.heap.size W w') (v : Value) : jaw q lo ko H s v W (.returned v) w' :=
 ⟨ru, rv, lo, ko, H, K, rfl, h.on hb, Kept.of_below hb, fun _ hi => .inl hi⟩
theorem jaw.ahead (hb : Below W.heap.size W W1) (h : jaw q lo ko H s' v W1 e w') (hl : ∀ i, BdF q lo ko H i → i < W.heap.size) : jaw q lo ko H s' v W e w' := by
 obtain ⟨ru', rv', lo', ko', H', K', h1, h2, h3, h4⟩ := h
 exact ⟨ru', rv', lo', ko', H', K', h1, h2, (Kept.of_below (F := BdF q lo ko H) hb).trans h3 fun _ _ h => h, fun i hi => (h4 i hi).imp id (Nat.le_trans hb.size)⟩
theorem jaw.ret (h : jaw q lo ko H s' v W e w') (u : Value) : jaw q lo ko H s' u W (.returned u) w' := by
 obtain ⟨ru', rv', lo', ko', H', K', h1, h2, h3, h4⟩ := h
 exact ⟨ru', rv', lo', ko', H', K', rfl, h2, h3, h4⟩
end
end Go.Proofs.YtnacjhnfkkddcaaGreatDoor
