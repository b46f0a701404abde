import Derived.Shelf.Strings.OnBuilder
import Derived.Shelf.Small.Strs
import Derived.Shelf.Small.Wraps
import Derived.Shelf.Strings.BuilderK
import Derived.Shelf.Strconv.Itoa4
import Derived.Shelf.Strconv.ErrVarParseInt
import Derived.Shelf.Strings.Search3
import Derived.Shelf.Bits.Mul64
import Derived.Shelf.Slices.Turned
import Derived.Test.YtenckgnkjkijnaaGreatDoorProg
namespace Go.Proofs.Tryz
open Go Go.Shelf Go.RowKit
theorem fk {α:Type}{x:Option α}{a b:α}(h:x=some a)(e:a=b:=by kernel_rfl):x=some b:=h.trans (congrArg some e)
def lays106_ren:Ren:=⟨fun | 106=>327 | 213=>338 | 265=>349 | n=>n,fun | 9=>9 | 3=>3 | n=>n,fun | n=>n⟩
theorem lays106:Lays.n106 prog lays106_ren:={
 mixed:=by kernel_rfl,f106:=fk func327,f213:=fk func338,f265:=fk func349,t3:=underlying3,a3:=isAgg3,z3:=sizeOf3,v3:=zeroValue3,t9:=underlying9,a9:=isAgg9,z9:=sizeOf9,v9:=zeroValue9}
theorem strings_Compare (a b:ByteArray) (w:World) :
 Calls prog 327 #[.string a,.string b] w fun e w'=>e=.returned (.int .i64 (Lib.compareBytes a.data.toList b.data.toList))/\w'=w:=Any.strings_Compare lays106 a b w
def lays121_ren:Ren:=⟨fun | 121=>332 | 214=>344 | n=>n,fun | 4=>4 | 9=>9 | n=>n,fun | n=>n⟩
theorem lays121:Lays.n121 prog lays121_ren:={
 mixed:=by kernel_rfl,f121:=fk func332,f214:=fk func344,t4:=underlying4,a4:=isAgg4,z4:=sizeOf4,v4:=zeroValue4,t9:=underlying9,a9:=isAgg9,z9:=sizeOf9,v9:=zeroValue9}
theorem strconv_FormatBool (b:Bool) (w:World) :
 Calls prog 332 #[.bool b] w fun e w'=>e=.returned (.string ⟨(Lib.formatBool b).toArray⟩)/\w'=w:=Any.strconv_FormatBool lays121 b w
def laysM173_ren:Ren:=⟨fun | 173=>337 | 246=>348 | 283=>362 | 284=>363 | 285=>364 | 286=>365 | 129=>376 | 317=>375 | 318=>377 | 319=>378 | 320=>379 | 337=>305 | 338=>381 | n=>n,fun | 2=>2 | 3=>3 | 9=>9 | 4=>4 | 171=>342 | 0=>0 | 53=>306 | 37=>149 | 5=>5 | 173=>345 | 212=>357 | 51=>233 | 20=>20 | 213=>358 | 46=>315 | 232=>314 | 233=>363 | n=>n,fun | 17=>6 | 18=>1 | 19=>7 | n=>n⟩
theorem laysM173:Go.Proofs.LaysM.n173 prog laysM173_ren:={
 mixed:=by kernel_rfl,f129:=fk func376,f173:=fk func337,f246:=fk func348,f283:=fk func362,f284:=fk func363,f285:=fk func364,f286:=fk func365,f317:=fk func375,f318:=fk func377,f319:=fk func378,f320:=fk func379,f337:=fk func305,f338:=fk func381,t0:=underlying0,a0:=isAgg0,z0:=sizeOf0,v0:=zeroValue0,t2:=underlying2,a2:=isAgg2,z2:=sizeOf2,v2:=zeroValue2,t3:=underlying3,a3:=isAgg3,z3:=sizeOf3,v3:=zeroValue3,t4:=underlying4,a4:=isAgg4,z4:=sizeOf4,v4:=zeroValue4,t5:=underlying5,a5:=isAgg5,z5:=sizeOf5,v5:=zeroValue5,t9:=underlying9,a9:=isAgg9,z9:=sizeOf9,v9:=zeroValue9,t20:=underlying20,a20:=isAgg20,z20:=sizeOf20,v20:=zeroValue20,t37:=underlying149,a37:=isAgg149,z37:=sizeOf149,v37:=zeroValue149,t46:=underlying315,a46:=isAgg315,z46:=sizeOf315,v46:=zeroValue315,t51:=underlying233,a51:=isAgg233,z51:=sizeOf233,v51:=zeroValue233,t53:=underlying306,a53:=isAgg306,z53:=sizeOf306,v53:=zeroValue306,t171:=underlying342,a171:=isAgg342,z171:=sizeOf342,v171:=zeroValue342,t173:=underlying345,a173:=isAgg345,z173:=sizeOf345,v173:=zeroValue345,t212:=underlying357,a212:=isAgg357,z212:=sizeOf357,v212:=zeroValue357,t213:=underlying358,a213:=isAgg358,z213:=sizeOf358,t232:=underlying314,a232:=isAgg314,z232:=sizeOf314,v232:=zeroValue314,t233:=underlying363,a233:=isAgg363,z233:=sizeOf363,v233:=zeroValue363,g17:=by kernel_rfl,g18:=by kernel_rfl,g19:=by kernel_rfl,i0:=by kernel_rfl,i2:=by kernel_rfl,i3:=by kernel_rfl,i4:=by kernel_rfl,i5:=by kernel_rfl,i9:=by kernel_rfl,i20:=by kernel_rfl,i37:=by kernel_rfl,i46:=by kernel_rfl,i51:=by kernel_rfl,i53:=by kernel_rfl,i171:=by kernel_rfl,i173:=by kernel_rfl,i212:=by kernel_rfl,i232:=by kernel_rfl,i233:=by kernel_rfl,m17:=by kernel_rfl,m18:=by kernel_rfl,m19:=by kernel_rfl}
open Go.RowKit Go.Sort Go.Lib in
theorem strconv_FormatInt_10 (n:Int) (h0:-9223372036854775808 ≤ n) (h1:n ≤ 9223372036854775807) (w:World) (htab:Lib.TabIs prog w "internal/strconv.uint64pow10" .u64 Lib.pow10Tab) :
 Calls prog 337 #[.int .i64 n,.int .i64 10] w fun e w'=>e=.returned (.string ⟨(Lib.itoa n).toArray⟩)/\∃ k os,w'=grow (w.drewN k) os:=Any.strconv_FormatInt_10 laysM173 n h0 h1 w htab
def laysC174_ren:Ren:=⟨fun | 174=>331 | 247=>342 | 245=>343 | 287=>354 | 279=>355 | 280=>356 | 281=>357 | 282=>358 | 321=>368 | 322=>369 | 316=>370 | 171=>372 | 205=>371 | 243=>380 | 246=>348 | 283=>362 | 284=>363 | 285=>364 | 286=>365 | 129=>376 | 317=>375 | 318=>377 | 319=>378 | 320=>379 | 337=>305 | 338=>381 | n=>n,fun | 9=>9 | 3=>3 | 2=>2 | 75=>297 | 85=>319 | 4=>4 | 167=>335 | 5=>5 | 53=>306 | 175=>336 | 46=>315 | 168=>338 | 37=>149 | 0=>0 | 210=>352 | 21=>21 | 127=>303 | 145=>362 | 143=>360 | 171=>342 | 173=>345 | 212=>357 | 51=>233 | 20=>20 | 213=>358 | 232=>314 | 233=>363 | 80=>288 | n=>n,fun | 15=>3 | 16=>4 | 17=>6 | 18=>1 | 19=>7 | n=>n⟩
theorem laysC174:Go.Proofs.LaysC.n174 prog laysC174_ren:={
 mixed:=by kernel_rfl,f129:=fk func376,f171:=fk func372,f174:=fk func331,f205:=fk func371,f243:=fk func380,f245:=fk func343,f246:=fk func348,f247:=fk func342,f279:=fk func355,f280:=fk func356,f281:=fk func357,f282:=fk func358,f283:=fk func362,f284:=fk func363,f285:=fk func364,f286:=fk func365,f287:=fk func354,f316:=fk func370,f317:=fk func375,f318:=fk func377,f319:=fk func378,f320:=fk func379,f321:=fk func368,f322:=fk func369,f337:=fk func305,f338:=fk func381,t0:=underlying0,a0:=isAgg0,z0:=sizeOf0,v0:=zeroValue0,t2:=underlying2,a2:=isAgg2,z2:=sizeOf2,v2:=zeroValue2,t3:=underlying3,a3:=isAgg3,z3:=sizeOf3,v3:=zeroValue3,t4:=underlying4,a4:=isAgg4,z4:=sizeOf4,v4:=zeroValue4,t5:=underlying5,a5:=isAgg5,z5:=sizeOf5,v5:=zeroValue5,t9:=underlying9,a9:=isAgg9,z9:=sizeOf9,v9:=zeroValue9,t20:=underlying20,a20:=isAgg20,z20:=sizeOf20,v20:=zeroValue20,t21:=underlying21,a21:=isAgg21,z21:=sizeOf21,v21:=zeroValue21,t37:=underlying149,a37:=isAgg149,z37:=sizeOf149,v37:=zeroValue149,t46:=underlying315,a46:=isAgg315,z46:=sizeOf315,v46:=zeroValue315,t51:=underlying233,a51:=isAgg233,z51:=sizeOf233,v51:=zeroValue233,t53:=underlying306,a53:=isAgg306,z53:=sizeOf306,v53:=zeroValue306,t75:=underlying297,a75:=isAgg297,z75:=sizeOf297,v75:=zeroValue297,t85:=underlying319,a85:=isAgg319,z85:=sizeOf319,v85:=zeroValue319,t127:=underlying303,a127:=isAgg303,z127:=sizeOf303,v127:=zeroValue303,t143:=underlying360,a143:=isAgg360,z143:=sizeOf360,v143:=zeroValue360,t145:=underlying362,a145:=isAgg362,z145:=sizeOf362,v145:=zeroValue362,t167:=underlying335,a167:=isAgg335,z167:=sizeOf335,v167:=zeroValue335,t168:=underlying338,a168:=isAgg338,z168:=sizeOf338,v168:=zeroValue338,t171:=underlying342,a171:=isAgg342,z171:=sizeOf342,v171:=zeroValue342,t173:=underlying345,a173:=isAgg345,z173:=sizeOf345,v173:=zeroValue345,t175:=underlying336,a175:=isAgg336,z175:=sizeOf336,v175:=zeroValue336,t210:=underlying352,a210:=isAgg352,z210:=sizeOf352,v210:=zeroValue352,t212:=underlying357,a212:=isAgg357,z212:=sizeOf357,v212:=zeroValue357,t213:=underlying358,a213:=isAgg358,z213:=sizeOf358,t232:=underlying314,a232:=isAgg314,z232:=sizeOf314,v232:=zeroValue314,t233:=underlying363,a233:=isAgg363,z233:=sizeOf363,v233:=zeroValue363,g15:=by kernel_rfl,g16:=by kernel_rfl,g17:=by kernel_rfl,g18:=by kernel_rfl,g19:=by kernel_rfl,t80:=underlying288,a80:=isAgg288,z80:=sizeOf288,v80:=zeroValue288,i0:=by kernel_rfl,i2:=by kernel_rfl,i3:=by kernel_rfl,i4:=by kernel_rfl,i5:=by kernel_rfl,i9:=by kernel_rfl,i20:=by kernel_rfl,i21:=by kernel_rfl,i37:=by kernel_rfl,i46:=by kernel_rfl,i51:=by kernel_rfl,i53:=by kernel_rfl,i75:=by kernel_rfl,i80:=by kernel_rfl,i85:=by kernel_rfl,i127:=by kernel_rfl,i143:=by kernel_rfl,i145:=by kernel_rfl,i167:=by kernel_rfl,i168:=by kernel_rfl,i171:=by kernel_rfl,i173:=by kernel_rfl,i175:=by kernel_rfl,i210:=by kernel_rfl,i212:=by kernel_rfl,i232:=by kernel_rfl,i233:=by kernel_rfl,m15:=by kernel_rfl,m16:=by kernel_rfl,m17:=by kernel_rfl,m18:=by kernel_rfl,m19:=by kernel_rfl,c0:=by kernel_rfl,c2:=by kernel_rfl,c3:=by kernel_rfl,c4:=by kernel_rfl,c5:=by kernel_rfl,c9:=by kernel_rfl,c20:=by kernel_rfl,c21:=by kernel_rfl,c37:=by kernel_rfl,c46:=by kernel_rfl,c51:=by kernel_rfl,c53:=by kernel_rfl,c75:=by kernel_rfl,c80:=by kernel_rfl,c85:=by kernel_rfl,c127:=by kernel_rfl,c143:=by kernel_rfl,c145:=by kernel_rfl,c167:=by kernel_rfl,c168:=by kernel_rfl,c171:=by kernel_rfl,c173:=by kernel_rfl,c175:=by kernel_rfl,c210:=by kernel_rfl,c212:=by kernel_rfl,c213:=by kernel_rfl,c232:=by kernel_rfl,c233:=by kernel_rfl}
theorem strconv_ParseInt_10_at64_ok (s:ByteArray) (hmax:s.size ≤ 9223372036854775806) (v:Int) (h:Lib.parseIntB 64 s.data.toList=.ok v) (w:World) :
 Calls prog 331 #[.string s,.int .i64 10,.int .i64 64] w fun e w'=>e=.returned (.tuple #[.int .i64 v,.nilIface])/\(w'=w ∨ ∃ t,w'=Lib.bytesWorld w 5 t):=Any.strconv_ParseInt_10_at64_ok laysC174 s hmax v h w
theorem strconv_ParseInt_10_at64_syntax_var (s:ByteArray) (hlim:s.size ≤ 281474976710656) (h:Lib.parseIntB 64 s.data.toList=.«syntax») (tp:TypeId) (p:Value) (w:World) (hvar:w.var? prog "strconv.ErrSyntax"=some #[.iface tp p]) :
 Calls prog 331 #[.string s,.int .i64 10,.int .i64 64] w fun e w'=>∃ N,e=.returned (.tuple #[.int .i64 (0),.iface 338 (.pointer (some ⟨N,0,none⟩))])/\w.heap.size ≤ N/\w'.heap[N]?=some (.cells #[.string ⟨#[80,97,114,115,101,73,110,116]⟩,.string s,.iface tp p] 352 (0,0))/\Below w.heap.size w w':=Any.strconv_ParseInt_10_at64_syntax_var laysC174 s hlim h tp p w hvar
theorem strconv_ParseInt_10_at64_range_var (s:ByteArray) (hlim:s.size ≤ 281474976710656) (h:Lib.parseIntB 64 s.data.toList=.range) (tp:TypeId) (p:Value) (w:World) (hvar:w.var? prog "strconv.ErrRange"=some #[.iface tp p]) :
 Calls prog 331 #[.string s,.int .i64 10,.int .i64 64] w fun e w'=>∃ N,e=.returned (.tuple #[.int .i64 (Lib.intSat 64 s.data.toList),.iface 338 (.pointer (some ⟨N,0,none⟩))])/\w.heap.size ≤ N/\w'.heap[N]?=some (.cells #[.string ⟨#[80,97,114,115,101,73,110,116]⟩,.string s,.iface tp p] 352 (0,0))/\Below w.heap.size w w':=Any.strconv_ParseInt_10_at64_range_var laysC174 s hlim h tp p w hvar
def lays144_ren:Ren:=⟨fun | 144=>314 | 143=>330 | 219=>341 | 217=>350 | 225=>351 | 224=>352 | 267=>353 | 266=>366 | 314=>367 | n=>n,fun | 9=>9 | 4=>4 | 3=>3 | 5=>5 | 46=>315 | 146=>347 | 51=>233 | n=>n,fun | 1=>2 | n=>n⟩
theorem lays144:Lays.n144 prog lays144_ren:={
 mixed:=by kernel_rfl,f143:=fk func330,f144:=fk func314,f217:=fk func350,f219:=fk func341,f224:=fk func352,f225:=fk func351,f266:=fk func366,f267:=fk func353,f314:=fk func367,t3:=underlying3,a3:=isAgg3,z3:=sizeOf3,v3:=zeroValue3,t4:=underlying4,a4:=isAgg4,z4:=sizeOf4,v4:=zeroValue4,t5:=underlying5,a5:=isAgg5,z5:=sizeOf5,v5:=zeroValue5,t9:=underlying9,a9:=isAgg9,z9:=sizeOf9,v9:=zeroValue9,t46:=underlying315,a46:=isAgg315,z46:=sizeOf315,v46:=zeroValue315,t51:=underlying233,a51:=isAgg233,z51:=sizeOf233,v51:=zeroValue233,t146:=underlying347,a146:=isAgg347,z146:=sizeOf347,v146:=zeroValue347,g1:=by kernel_rfl}
open Go.RowKit Go.Lib in
theorem strings_Contains (s sub:ByteArray) (m:Int) (w:World) (hs:s.size < 4294967281) (hm:w.cell? ⟨2,0,none⟩=some (.int .i64 m)) :
 Calls prog 314 #[.string s,.string sub] w fun e w'=>e=.returned (.bool (Lib.contains s.data.toList sub.data.toList))/\w'=w:=Any.strings_Contains lays144 s sub m w hs hm
def lays264_ren:Ren:=⟨fun | 264=>309 | n=>n,fun | 53=>306 | 46=>315 | n=>n,fun | n=>n⟩
theorem lays264:Lays.n264 prog lays264_ren:={
 mixed:=by kernel_rfl,f264:=fk func309,t46:=underlying315,a46:=isAgg315,z46:=sizeOf315,v46:=zeroValue315,t53:=underlying306,a53:=isAgg306,z53:=sizeOf306,v53:=zeroValue306}
open Go.RowKit Go.Lib in
theorem bits_Mul64 (x y:Nat) (hx:x < 18446744073709551616) (hy:y < 18446744073709551616) (w:World) :
 Calls prog 309 #[.int .u64 x,.int .u64 y] w fun e w'=>e=.returned (.tuple #[.int .u64 ((x * y / 18446744073709551616:Nat):Int),.int .u64 ((x * y % 18446744073709551616:Nat):Int)])/\w'=w:=Any.bits_Mul64 lays264 x y hx hy w
def lays169_ren:Ren:=⟨fun | 169=>243 | n=>n,fun | 70=>283 | 9=>9 | 0=>0 | 72=>285 | 37=>149 | 127=>303 | 3=>3 | 5=>5 | n=>n,fun | n=>n⟩
theorem lays169:Lays.n169 prog lays169_ren:={
 mixed:=by kernel_rfl,f169:=fk func243,t0:=underlying0,a0:=isAgg0,z0:=sizeOf0,v0:=zeroValue0,t3:=underlying3,a3:=isAgg3,z3:=sizeOf3,v3:=zeroValue3,t9:=underlying9,a9:=isAgg9,z9:=sizeOf9,v9:=zeroValue9,t37:=underlying149,a37:=isAgg149,z37:=sizeOf149,v37:=zeroValue149,t70:=underlying283,a70:=isAgg283,z70:=sizeOf283,v70:=zeroValue283,t72:=underlying285,a72:=isAgg285,z72:=sizeOf285,v72:=zeroValue285,t127:=underlying303,a127:=isAgg303,z127:=sizeOf303,v127:=zeroValue303}
theorem Builder_Extra_169:Builder.Extra prog lays169_ren:={
 sizeBuilder:=by kernel_rfl
 liesBuilder:=by kernel_rfl
 t5:=underlying5
 a5:=isAgg5
 z5:=sizeOf5
 v5:=zeroValue5
 infoByte:=by kernel_rfl
 cellsByte:=by kernel_rfl
 sizeByte:=by kernel_rfl
 neB5:=by decide }
theorem Builder_String_any (B b:Nat) (l:List UInt8) (w:World) (h:Lib.IsBuilder 285 5 B b (Lib.byteCells l) w) (hBw:B ≤ w.heap.size) :
 Calls prog 243 #[.pointer (some ⟨b,0,none⟩)] w fun e w'=>e=.returned (.string ⟨l.toArray⟩)/\Below B w w':=Any.Builder_String_any lays169 Builder_Extra_169 B b l w h hBw
def lays156_ren:Ren:=⟨fun | 156=>300 | 165=>324 | 166=>299 | 169=>243 | 240=>323 | 241=>336 | 276=>335 | 277=>347 | n=>n,fun | 31=>22 | 9=>9 | 3=>3 | 4=>4 | 0=>0 | 20=>20 | 72=>285 | 76=>298 | 70=>283 | 37=>149 | 75=>297 | 127=>303 | 164=>323 | 5=>5 | 80=>288 | n=>n,fun | n=>n⟩
theorem lays156:Lays.n156 prog lays156_ren:={
 mixed:=by kernel_rfl,f156:=fk func300,f165:=fk func324,f166:=fk func299,f169:=fk func243,f240:=fk func323,f241:=fk func336,f276:=fk func335,f277:=fk func347,t0:=underlying0,a0:=isAgg0,z0:=sizeOf0,v0:=zeroValue0,t3:=underlying3,a3:=isAgg3,z3:=sizeOf3,v3:=zeroValue3,t4:=underlying4,a4:=isAgg4,z4:=sizeOf4,v4:=zeroValue4,t9:=underlying9,a9:=isAgg9,z9:=sizeOf9,v9:=zeroValue9,t20:=underlying20,a20:=isAgg20,z20:=sizeOf20,v20:=zeroValue20,t31:=underlying22,a31:=isAgg22,z31:=sizeOf22,v31:=zeroValue22,t37:=underlying149,a37:=isAgg149,z37:=sizeOf149,v37:=zeroValue149,t70:=underlying283,a70:=isAgg283,z70:=sizeOf283,v70:=zeroValue283,t72:=underlying285,a72:=isAgg285,z72:=sizeOf285,v72:=zeroValue285,t75:=underlying297,a75:=isAgg297,z75:=sizeOf297,v75:=zeroValue297,t76:=underlying298,a76:=isAgg298,z76:=sizeOf298,v76:=zeroValue298,t127:=underlying303,a127:=isAgg303,z127:=sizeOf303,v127:=zeroValue303,t164:=underlying323,a164:=isAgg323,z164:=sizeOf323,v164:=zeroValue323}
theorem Builder_Extra_156:Builder.Extra prog lays156_ren:={
 sizeBuilder:=by kernel_rfl
 liesBuilder:=by kernel_rfl
 t5:=underlying5
 a5:=isAgg5
 z5:=sizeOf5
 v5:=zeroValue5
 infoByte:=by kernel_rfl
 cellsByte:=by kernel_rfl
 sizeByte:=by kernel_rfl
 neB5:=by decide }
theorem strings_Join_none (a:Option Addr) (c:Nat) (sep:ByteArray) (w:World) :
 Calls prog 300 #[.slice a 0 c,.string sep] w fun e w'=>e=.returned (.string ⟨#[]⟩)/\w'=w:=Any.strings_Join_none lays156 Builder_Extra_156 a c sep w
theorem strings_Join (bk o c:Nat) (xs:List ByteArray) (sep:ByteArray) (w:World) (hcells:∀ (j:Nat) x,xs[j]?=some x->w.cell? ⟨bk,o + j,none⟩=some (.string x)) (hbk:bk < w.heap.size) (hN:xs.length ≤ 140737488355328) (hcap:xs.length ≤ c) (hlen:(Lib.join (xs.map (·.data.toList)) sep.data.toList).length ≤ 140737488355328) :
 Calls prog 300 #[.slice (some ⟨bk,o,none⟩) xs.length c,.string sep] w fun e w'=>e=.returned (.string ⟨(Lib.join (xs.map (·.data.toList)) sep.data.toList).toArray⟩)/\Below w.heap.size w w':=Any.strings_Join lays156 Builder_Extra_156 bk o c xs sep w hcells hbk hN hcap hlen
def lays108_ren:Ren:=⟨fun | 108=>103 | n=>n,fun | 28=>89 | 3=>3 | 0=>0 | 4=>4 | n=>n,fun | n=>n⟩
theorem lays108:Lays.n108 prog lays108_ren:={
 mixed:=by kernel_rfl,f108:=fk func103,t0:=underlying0,a0:=isAgg0,z0:=sizeOf0,v0:=zeroValue0,t3:=underlying3,a3:=isAgg3,z3:=sizeOf3,v3:=zeroValue3,t4:=underlying4,a4:=isAgg4,z4:=sizeOf4,v4:=zeroValue4,t28:=underlying89,a28:=isAgg89,z28:=sizeOf89,v28:=zeroValue89}
open Go.Lib in
theorem slices_Index_int (b off n c:Nat) (zs:List Int) (x:Int) (w:World) (hz:n ≤ zs.length) (hbig:n ≤ 9223372036854775807) (hc:∀ j,j < zs.length->w.cell? ⟨b,off + j,none⟩=some (.int .i64 (zs.getD j 0))) :
 Calls prog 103 #[.slice (some ⟨b,off,none⟩) n c,.int .i64 x] w fun e w'=>e=.returned (.int .i64 (Lib.idxOf (zs.take n) x))/\w'=w:=Any.slices_Index_int lays108 b off n c zs x w hz hbig hc
open Go.Lib in
theorem slices_Index_int_empty (a:Option Addr) (c:Nat) (x:Int) (w:World) :
 Calls prog 103 #[.slice a 0 c,.int .i64 x] w fun e w'=>e=.returned (.int .i64 (Lib.idxOf [] x))/\w'=w:=Any.slices_Index_int_empty lays108 a c x w
def lays107_ren:Ren:=⟨fun | 107=>321 | 108=>103 | n=>n,fun | 28=>89 | 3=>3 | 4=>4 | 0=>0 | n=>n,fun | n=>n⟩
theorem lays107:Lays.n107 prog lays107_ren:={
 mixed:=by kernel_rfl,f107:=fk func321,f108:=fk func103,t0:=underlying0,a0:=isAgg0,z0:=sizeOf0,v0:=zeroValue0,t3:=underlying3,a3:=isAgg3,z3:=sizeOf3,v3:=zeroValue3,t4:=underlying4,a4:=isAgg4,z4:=sizeOf4,v4:=zeroValue4,t28:=underlying89,a28:=isAgg89,z28:=sizeOf89,v28:=zeroValue89}
open Go.Lib in
theorem slices_Contains_int (b off n c:Nat) (zs:List Int) (x:Int) (w:World) (hz:n ≤ zs.length) (hbig:n ≤ 9223372036854775807) (hc:∀ j,j < zs.length->w.cell? ⟨b,off + j,none⟩=some (.int .i64 (zs.getD j 0))) :
 Calls prog 321 #[.slice (some ⟨b,off,none⟩) n c,.int .i64 x] w fun e w'=>e=.returned (.bool ((zs.take n).contains x))/\w'=w:=Any.slices_Contains_int lays107 b off n c zs x w hz hbig hc
open Go.Lib in
theorem slices_Contains_int_empty (a:Option Addr) (c:Nat) (x:Int) (w:World) :
 Calls prog 321 #[.slice a 0 c,.int .i64 x] w fun e w'=>e=.returned (.bool false)/\w'=w:=Any.slices_Contains_int_empty lays107 a c x w
end Go.Proofs.Tryz
