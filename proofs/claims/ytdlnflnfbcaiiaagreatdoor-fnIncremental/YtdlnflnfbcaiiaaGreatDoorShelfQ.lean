import Derived.Shelf.Strings.OnBuilder
import Derived.Shelf.Small.Strs
import Derived.Shelf.Small.Wraps
import Derived.Shelf.Strings.BuilderK
import Derived.Shelf.Strconv.Itoa4
import Derived.Shelf.Strconv.ErrVarParseInt
import Derived.Shelf.Strings.Search3
import Derived.Shelf.Bits.Mul64
import Derived.Shelf.Slices.Turned
import Derived.Test.YtdlnflnfbcaiiaaGreatDoorProg
namespace Go.Proofs.Tryz
open Go Go.Shelf Go.RowKit
theorem fk {α:Type}{x:Option α}{a b:α}(h:x=some a)(e:a=b:=by kernel_rfl):x=some b:=h.trans (congrArg some e)
def lays106_ren:Ren:=⟨fun | 106=>311 | 213=>322 | 265=>333 | n=>n,fun | 9=>9 | 3=>3 | n=>n,fun | n=>n⟩
theorem lays106:Lays.n106 prog lays106_ren:={
 mixed:=by kernel_rfl,f106:=fk func311,f213:=fk func322,f265:=fk func333,t3:=underlying3,a3:=isAgg3,z3:=sizeOf3,v3:=zeroValue3,t9:=underlying9,a9:=isAgg9,z9:=sizeOf9,v9:=zeroValue9}
theorem strings_Compare (a b:ByteArray) (w:World) :
 Calls prog 311 #[.string a,.string b] w fun e w'=>e=.returned (.int .i64 (Lib.compareBytes a.data.toList b.data.toList))/\w'=w:=Any.strings_Compare lays106 a b w
def lays121_ren:Ren:=⟨fun | 121=>316 | 214=>328 | n=>n,fun | 4=>4 | 9=>9 | n=>n,fun | n=>n⟩
theorem lays121:Lays.n121 prog lays121_ren:={
 mixed:=by kernel_rfl,f121:=fk func316,f214:=fk func328,t4:=underlying4,a4:=isAgg4,z4:=sizeOf4,v4:=zeroValue4,t9:=underlying9,a9:=isAgg9,z9:=sizeOf9,v9:=zeroValue9}
theorem strconv_FormatBool (b:Bool) (w:World) :
 Calls prog 316 #[.bool b] w fun e w'=>e=.returned (.string ⟨(Lib.formatBool b).toArray⟩)/\w'=w:=Any.strconv_FormatBool lays121 b w
def laysM173_ren:Ren:=⟨fun | 173=>321 | 246=>332 | 283=>346 | 284=>347 | 285=>348 | 286=>349 | 129=>360 | 317=>359 | 318=>361 | 319=>362 | 320=>363 | 337=>289 | 338=>365 | n=>n,fun | 2=>2 | 3=>3 | 9=>9 | 4=>4 | 171=>327 | 0=>0 | 53=>291 | 37=>22 | 5=>5 | 173=>330 | 212=>342 | 51=>141 | 20=>20 | 213=>343 | 46=>300 | 232=>299 | 233=>348 | n=>n,fun | 17=>6 | 18=>1 | 19=>7 | n=>n⟩
theorem laysM173:Go.Proofs.LaysM.n173 prog laysM173_ren:={
 mixed:=by kernel_rfl,f129:=fk func360,f173:=fk func321,f246:=fk func332,f283:=fk func346,f284:=fk func347,f285:=fk func348,f286:=fk func349,f317:=fk func359,f318:=fk func361,f319:=fk func362,f320:=fk func363,f337:=fk func289,f338:=fk func365,t0:=underlying0,a0:=isAgg0,z0:=sizeOf0,v0:=zeroValue0,t2:=underlying2,a2:=isAgg2,z2:=sizeOf2,v2:=zeroValue2,t3:=underlying3,a3:=isAgg3,z3:=sizeOf3,v3:=zeroValue3,t4:=underlying4,a4:=isAgg4,z4:=sizeOf4,v4:=zeroValue4,t5:=underlying5,a5:=isAgg5,z5:=sizeOf5,v5:=zeroValue5,t9:=underlying9,a9:=isAgg9,z9:=sizeOf9,v9:=zeroValue9,t20:=underlying20,a20:=isAgg20,z20:=sizeOf20,v20:=zeroValue20,t37:=underlying22,a37:=isAgg22,z37:=sizeOf22,v37:=zeroValue22,t46:=underlying300,a46:=isAgg300,z46:=sizeOf300,v46:=zeroValue300,t51:=underlying141,a51:=isAgg141,z51:=sizeOf141,v51:=zeroValue141,t53:=underlying291,a53:=isAgg291,z53:=sizeOf291,v53:=zeroValue291,t171:=underlying327,a171:=isAgg327,z171:=sizeOf327,v171:=zeroValue327,t173:=underlying330,a173:=isAgg330,z173:=sizeOf330,v173:=zeroValue330,t212:=underlying342,a212:=isAgg342,z212:=sizeOf342,v212:=zeroValue342,t213:=underlying343,a213:=isAgg343,z213:=sizeOf343,t232:=underlying299,a232:=isAgg299,z232:=sizeOf299,v232:=zeroValue299,t233:=underlying348,a233:=isAgg348,z233:=sizeOf348,v233:=zeroValue348,g17:=by kernel_rfl,g18:=by kernel_rfl,g19:=by kernel_rfl,i0:=by kernel_rfl,i2:=by kernel_rfl,i3:=by kernel_rfl,i4:=by kernel_rfl,i5:=by kernel_rfl,i9:=by kernel_rfl,i20:=by kernel_rfl,i37:=by kernel_rfl,i46:=by kernel_rfl,i51:=by kernel_rfl,i53:=by kernel_rfl,i171:=by kernel_rfl,i173:=by kernel_rfl,i212:=by kernel_rfl,i232:=by kernel_rfl,i233:=by kernel_rfl,m17:=by kernel_rfl,m18:=by kernel_rfl,m19:=by kernel_rfl}
open Go.RowKit Go.Sort Go.Lib in
theorem strconv_FormatInt_10 (n:Int) (h0:-9223372036854775808 ≤ n) (h1:n ≤ 9223372036854775807) (w:World) (htab:Lib.TabIs prog w "internal/strconv.uint64pow10" .u64 Lib.pow10Tab) :
 Calls prog 321 #[.int .i64 n,.int .i64 10] w fun e w'=>e=.returned (.string ⟨(Lib.itoa n).toArray⟩)/\∃ k os,w'=grow (w.drewN k) os:=Any.strconv_FormatInt_10 laysM173 n h0 h1 w htab
def laysC174_ren:Ren:=⟨fun | 174=>315 | 247=>326 | 245=>327 | 287=>338 | 279=>339 | 280=>340 | 281=>341 | 282=>342 | 321=>352 | 322=>353 | 316=>354 | 171=>356 | 205=>355 | 243=>364 | 246=>332 | 283=>346 | 284=>347 | 285=>348 | 286=>349 | 129=>360 | 317=>359 | 318=>361 | 319=>362 | 320=>363 | 337=>289 | 338=>365 | n=>n,fun | 9=>9 | 3=>3 | 2=>2 | 75=>282 | 85=>304 | 4=>4 | 167=>320 | 5=>5 | 53=>291 | 175=>321 | 46=>300 | 168=>323 | 37=>22 | 0=>0 | 210=>337 | 21=>21 | 127=>288 | 145=>347 | 143=>345 | 171=>327 | 173=>330 | 212=>342 | 51=>141 | 20=>20 | 213=>343 | 232=>299 | 233=>348 | 80=>271 | n=>n,fun | 15=>3 | 16=>4 | 17=>6 | 18=>1 | 19=>7 | n=>n⟩
theorem laysC174:Go.Proofs.LaysC.n174 prog laysC174_ren:={
 mixed:=by kernel_rfl,f129:=fk func360,f171:=fk func356,f174:=fk func315,f205:=fk func355,f243:=fk func364,f245:=fk func327,f246:=fk func332,f247:=fk func326,f279:=fk func339,f280:=fk func340,f281:=fk func341,f282:=fk func342,f283:=fk func346,f284:=fk func347,f285:=fk func348,f286:=fk func349,f287:=fk func338,f316:=fk func354,f317:=fk func359,f318:=fk func361,f319:=fk func362,f320:=fk func363,f321:=fk func352,f322:=fk func353,f337:=fk func289,f338:=fk func365,t0:=underlying0,a0:=isAgg0,z0:=sizeOf0,v0:=zeroValue0,t2:=underlying2,a2:=isAgg2,z2:=sizeOf2,v2:=zeroValue2,t3:=underlying3,a3:=isAgg3,z3:=sizeOf3,v3:=zeroValue3,t4:=underlying4,a4:=isAgg4,z4:=sizeOf4,v4:=zeroValue4,t5:=underlying5,a5:=isAgg5,z5:=sizeOf5,v5:=zeroValue5,t9:=underlying9,a9:=isAgg9,z9:=sizeOf9,v9:=zeroValue9,t20:=underlying20,a20:=isAgg20,z20:=sizeOf20,v20:=zeroValue20,t21:=underlying21,a21:=isAgg21,z21:=sizeOf21,v21:=zeroValue21,t37:=underlying22,a37:=isAgg22,z37:=sizeOf22,v37:=zeroValue22,t46:=underlying300,a46:=isAgg300,z46:=sizeOf300,v46:=zeroValue300,t51:=underlying141,a51:=isAgg141,z51:=sizeOf141,v51:=zeroValue141,t53:=underlying291,a53:=isAgg291,z53:=sizeOf291,v53:=zeroValue291,t75:=underlying282,a75:=isAgg282,z75:=sizeOf282,v75:=zeroValue282,t85:=underlying304,a85:=isAgg304,z85:=sizeOf304,v85:=zeroValue304,t127:=underlying288,a127:=isAgg288,z127:=sizeOf288,v127:=zeroValue288,t143:=underlying345,a143:=isAgg345,z143:=sizeOf345,v143:=zeroValue345,t145:=underlying347,a145:=isAgg347,z145:=sizeOf347,v145:=zeroValue347,t167:=underlying320,a167:=isAgg320,z167:=sizeOf320,v167:=zeroValue320,t168:=underlying323,a168:=isAgg323,z168:=sizeOf323,v168:=zeroValue323,t171:=underlying327,a171:=isAgg327,z171:=sizeOf327,v171:=zeroValue327,t173:=underlying330,a173:=isAgg330,z173:=sizeOf330,v173:=zeroValue330,t175:=underlying321,a175:=isAgg321,z175:=sizeOf321,v175:=zeroValue321,t210:=underlying337,a210:=isAgg337,z210:=sizeOf337,v210:=zeroValue337,t212:=underlying342,a212:=isAgg342,z212:=sizeOf342,v212:=zeroValue342,t213:=underlying343,a213:=isAgg343,z213:=sizeOf343,t232:=underlying299,a232:=isAgg299,z232:=sizeOf299,v232:=zeroValue299,t233:=underlying348,a233:=isAgg348,z233:=sizeOf348,v233:=zeroValue348,g15:=by kernel_rfl,g16:=by kernel_rfl,g17:=by kernel_rfl,g18:=by kernel_rfl,g19:=by kernel_rfl,t80:=underlying271,a80:=isAgg271,z80:=sizeOf271,v80:=zeroValue271,i0:=by kernel_rfl,i2:=by kernel_rfl,i3:=by kernel_rfl,i4:=by kernel_rfl,i5:=by kernel_rfl,i9:=by kernel_rfl,i20:=by kernel_rfl,i21:=by kernel_rfl,i37:=by kernel_rfl,i46:=by kernel_rfl,i51:=by kernel_rfl,i53:=by kernel_rfl,i75:=by kernel_rfl,i80:=by kernel_rfl,i85:=by kernel_rfl,i127:=by kernel_rfl,i143:=by kernel_rfl,i145:=by kernel_rfl,i167:=by kernel_rfl,i168:=by kernel_rfl,i171:=by kernel_rfl,i173:=by kernel_rfl,i175:=by kernel_rfl,i210:=by kernel_rfl,i212:=by kernel_rfl,i232:=by kernel_rfl,i233:=by kernel_rfl,m15:=by kernel_rfl,m16:=by kernel_rfl,m17:=by kernel_rfl,m18:=by kernel_rfl,m19:=by kernel_rfl,c0:=by kernel_rfl,c2:=by kernel_rfl,c3:=by kernel_rfl,c4:=by kernel_rfl,c5:=by kernel_rfl,c9:=by kernel_rfl,c20:=by kernel_rfl,c21:=by kernel_rfl,c37:=by kernel_rfl,c46:=by kernel_rfl,c51:=by kernel_rfl,c53:=by kernel_rfl,c75:=by kernel_rfl,c80:=by kernel_rfl,c85:=by kernel_rfl,c127:=by kernel_rfl,c143:=by kernel_rfl,c145:=by kernel_rfl,c167:=by kernel_rfl,c168:=by kernel_rfl,c171:=by kernel_rfl,c173:=by kernel_rfl,c175:=by kernel_rfl,c210:=by kernel_rfl,c212:=by kernel_rfl,c213:=by kernel_rfl,c232:=by kernel_rfl,c233:=by kernel_rfl}
theorem strconv_ParseInt_10_at64_ok (s:ByteArray) (hmax:s.size ≤ 9223372036854775806) (v:Int) (h:Lib.parseIntB 64 s.data.toList=.ok v) (w:World) :
 Calls prog 315 #[.string s,.int .i64 10,.int .i64 64] w fun e w'=>e=.returned (.tuple #[.int .i64 v,.nilIface])/\(w'=w ∨ ∃ t,w'=Lib.bytesWorld w 5 t):=Any.strconv_ParseInt_10_at64_ok laysC174 s hmax v h w
theorem strconv_ParseInt_10_at64_syntax_var (s:ByteArray) (hlim:s.size ≤ 281474976710656) (h:Lib.parseIntB 64 s.data.toList=.«syntax») (tp:TypeId) (p:Value) (w:World) (hvar:w.var? prog "strconv.ErrSyntax"=some #[.iface tp p]) :
 Calls prog 315 #[.string s,.int .i64 10,.int .i64 64] w fun e w'=>∃ N,e=.returned (.tuple #[.int .i64 (0),.iface 323 (.pointer (some ⟨N,0,none⟩))])/\w.heap.size ≤ N/\w'.heap[N]?=some (.cells #[.string ⟨#[80,97,114,115,101,73,110,116]⟩,.string s,.iface tp p] 337 (0,0))/\Below w.heap.size w w':=Any.strconv_ParseInt_10_at64_syntax_var laysC174 s hlim h tp p w hvar
theorem strconv_ParseInt_10_at64_range_var (s:ByteArray) (hlim:s.size ≤ 281474976710656) (h:Lib.parseIntB 64 s.data.toList=.range) (tp:TypeId) (p:Value) (w:World) (hvar:w.var? prog "strconv.ErrRange"=some #[.iface tp p]) :
 Calls prog 315 #[.string s,.int .i64 10,.int .i64 64] w fun e w'=>∃ N,e=.returned (.tuple #[.int .i64 (Lib.intSat 64 s.data.toList),.iface 323 (.pointer (some ⟨N,0,none⟩))])/\w.heap.size ≤ N/\w'.heap[N]?=some (.cells #[.string ⟨#[80,97,114,115,101,73,110,116]⟩,.string s,.iface tp p] 337 (0,0))/\Below w.heap.size w w':=Any.strconv_ParseInt_10_at64_range_var laysC174 s hlim h tp p w hvar
def lays144_ren:Ren:=⟨fun | 144=>298 | 143=>314 | 219=>325 | 217=>334 | 225=>335 | 224=>336 | 267=>337 | 266=>350 | 314=>351 | n=>n,fun | 9=>9 | 4=>4 | 3=>3 | 5=>5 | 46=>300 | 146=>332 | 51=>141 | n=>n,fun | 1=>2 | n=>n⟩
theorem lays144:Lays.n144 prog lays144_ren:={
 mixed:=by kernel_rfl,f143:=fk func314,f144:=fk func298,f217:=fk func334,f219:=fk func325,f224:=fk func336,f225:=fk func335,f266:=fk func350,f267:=fk func337,f314:=fk func351,t3:=underlying3,a3:=isAgg3,z3:=sizeOf3,v3:=zeroValue3,t4:=underlying4,a4:=isAgg4,z4:=sizeOf4,v4:=zeroValue4,t5:=underlying5,a5:=isAgg5,z5:=sizeOf5,v5:=zeroValue5,t9:=underlying9,a9:=isAgg9,z9:=sizeOf9,v9:=zeroValue9,t46:=underlying300,a46:=isAgg300,z46:=sizeOf300,v46:=zeroValue300,t51:=underlying141,a51:=isAgg141,z51:=sizeOf141,v51:=zeroValue141,t146:=underlying332,a146:=isAgg332,z146:=sizeOf332,v146:=zeroValue332,g1:=by kernel_rfl}
open Go.RowKit Go.Lib in
theorem strings_Contains (s sub:ByteArray) (m:Int) (w:World) (hs:s.size < 4294967281) (hm:w.cell? ⟨2,0,none⟩=some (.int .i64 m)) :
 Calls prog 298 #[.string s,.string sub] w fun e w'=>e=.returned (.bool (Lib.contains s.data.toList sub.data.toList))/\w'=w:=Any.strings_Contains lays144 s sub m w hs hm
def lays264_ren:Ren:=⟨fun | 264=>293 | n=>n,fun | 53=>291 | 46=>300 | n=>n,fun | n=>n⟩
theorem lays264:Lays.n264 prog lays264_ren:={
 mixed:=by kernel_rfl,f264:=fk func293,t46:=underlying300,a46:=isAgg300,z46:=sizeOf300,v46:=zeroValue300,t53:=underlying291,a53:=isAgg291,z53:=sizeOf291,v53:=zeroValue291}
open Go.RowKit Go.Lib in
theorem bits_Mul64 (x y:Nat) (hx:x < 18446744073709551616) (hy:y < 18446744073709551616) (w:World) :
 Calls prog 293 #[.int .u64 x,.int .u64 y] w fun e w'=>e=.returned (.tuple #[.int .u64 ((x * y / 18446744073709551616:Nat):Int),.int .u64 ((x * y % 18446744073709551616:Nat):Int)])/\w'=w:=Any.bits_Mul64 lays264 x y hx hy w
def lays169_ren:Ren:=⟨fun | 169=>230 | n=>n,fun | 70=>266 | 9=>9 | 0=>0 | 72=>268 | 37=>22 | 127=>288 | 3=>3 | 5=>5 | n=>n,fun | n=>n⟩
theorem lays169:Lays.n169 prog lays169_ren:={
 mixed:=by kernel_rfl,f169:=fk func230,t0:=underlying0,a0:=isAgg0,z0:=sizeOf0,v0:=zeroValue0,t3:=underlying3,a3:=isAgg3,z3:=sizeOf3,v3:=zeroValue3,t9:=underlying9,a9:=isAgg9,z9:=sizeOf9,v9:=zeroValue9,t37:=underlying22,a37:=isAgg22,z37:=sizeOf22,v37:=zeroValue22,t70:=underlying266,a70:=isAgg266,z70:=sizeOf266,v70:=zeroValue266,t72:=underlying268,a72:=isAgg268,z72:=sizeOf268,v72:=zeroValue268,t127:=underlying288,a127:=isAgg288,z127:=sizeOf288,v127:=zeroValue288}
theorem Builder_Extra_169:Builder.Extra prog lays169_ren:={
 sizeBuilder:=by kernel_rfl
 liesBuilder:=by kernel_rfl
 t5:=underlying5
 a5:=isAgg5
 z5:=sizeOf5
 v5:=zeroValue5
 infoByte:=by kernel_rfl
 cellsByte:=by kernel_rfl
 sizeByte:=by kernel_rfl
 neB5:=by decide }
theorem Builder_String_any (B b:Nat) (l:List UInt8) (w:World) (h:Lib.IsBuilder 268 5 B b (Lib.byteCells l) w) (hBw:B ≤ w.heap.size) :
 Calls prog 230 #[.pointer (some ⟨b,0,none⟩)] w fun e w'=>e=.returned (.string ⟨l.toArray⟩)/\Below B w w':=Any.Builder_String_any lays169 Builder_Extra_169 B b l w h hBw
def lays156_ren:Ren:=⟨fun | 156=>284 | 165=>308 | 166=>283 | 169=>230 | 240=>307 | 241=>320 | 276=>319 | 277=>331 | n=>n,fun | 31=>23 | 9=>9 | 3=>3 | 4=>4 | 0=>0 | 20=>20 | 72=>268 | 76=>283 | 70=>266 | 37=>22 | 75=>282 | 127=>288 | 164=>308 | 5=>5 | 80=>271 | n=>n,fun | n=>n⟩
theorem lays156:Lays.n156 prog lays156_ren:={
 mixed:=by kernel_rfl,f156:=fk func284,f165:=fk func308,f166:=fk func283,f169:=fk func230,f240:=fk func307,f241:=fk func320,f276:=fk func319,f277:=fk func331,t0:=underlying0,a0:=isAgg0,z0:=sizeOf0,v0:=zeroValue0,t3:=underlying3,a3:=isAgg3,z3:=sizeOf3,v3:=zeroValue3,t4:=underlying4,a4:=isAgg4,z4:=sizeOf4,v4:=zeroValue4,t9:=underlying9,a9:=isAgg9,z9:=sizeOf9,v9:=zeroValue9,t20:=underlying20,a20:=isAgg20,z20:=sizeOf20,v20:=zeroValue20,t31:=underlying23,a31:=isAgg23,z31:=sizeOf23,v31:=zeroValue23,t37:=underlying22,a37:=isAgg22,z37:=sizeOf22,v37:=zeroValue22,t70:=underlying266,a70:=isAgg266,z70:=sizeOf266,v70:=zeroValue266,t72:=underlying268,a72:=isAgg268,z72:=sizeOf268,v72:=zeroValue268,t75:=underlying282,a75:=isAgg282,z75:=sizeOf282,v75:=zeroValue282,t76:=underlying283,a76:=isAgg283,z76:=sizeOf283,v76:=zeroValue283,t127:=underlying288,a127:=isAgg288,z127:=sizeOf288,v127:=zeroValue288,t164:=underlying308,a164:=isAgg308,z164:=sizeOf308,v164:=zeroValue308}
theorem Builder_Extra_156:Builder.Extra prog lays156_ren:={
 sizeBuilder:=by kernel_rfl
 liesBuilder:=by kernel_rfl
 t5:=underlying5
 a5:=isAgg5
 z5:=sizeOf5
 v5:=zeroValue5
 infoByte:=by kernel_rfl
 cellsByte:=by kernel_rfl
 sizeByte:=by kernel_rfl
 neB5:=by decide }
theorem strings_Join_none (a:Option Addr) (c:Nat) (sep:ByteArray) (w:World) :
 Calls prog 284 #[.slice a 0 c,.string sep] w fun e w'=>e=.returned (.string ⟨#[]⟩)/\w'=w:=Any.strings_Join_none lays156 Builder_Extra_156 a c sep w
theorem strings_Join (bk o c:Nat) (xs:List ByteArray) (sep:ByteArray) (w:World) (hcells:∀ (j:Nat) x,xs[j]?=some x->w.cell? ⟨bk,o + j,none⟩=some (.string x)) (hbk:bk < w.heap.size) (hN:xs.length ≤ 140737488355328) (hcap:xs.length ≤ c) (hlen:(Lib.join (xs.map (·.data.toList)) sep.data.toList).length ≤ 140737488355328) :
 Calls prog 284 #[.slice (some ⟨bk,o,none⟩) xs.length c,.string sep] w fun e w'=>e=.returned (.string ⟨(Lib.join (xs.map (·.data.toList)) sep.data.toList).toArray⟩)/\Below w.heap.size w w':=Any.strings_Join lays156 Builder_Extra_156 bk o c xs sep w hcells hbk hN hcap hlen
def lays108_ren:Ren:=⟨fun | 108=>99 | n=>n,fun | 28=>35 | 3=>3 | 0=>0 | 4=>4 | n=>n,fun | n=>n⟩
theorem lays108:Lays.n108 prog lays108_ren:={
 mixed:=by kernel_rfl,f108:=fk func99,t0:=underlying0,a0:=isAgg0,z0:=sizeOf0,v0:=zeroValue0,t3:=underlying3,a3:=isAgg3,z3:=sizeOf3,v3:=zeroValue3,t4:=underlying4,a4:=isAgg4,z4:=sizeOf4,v4:=zeroValue4,t28:=underlying35,a28:=isAgg35,z28:=sizeOf35,v28:=zeroValue35}
open Go.Lib in
theorem slices_Index_int (b off n c:Nat) (zs:List Int) (x:Int) (w:World) (hz:n ≤ zs.length) (hbig:n ≤ 9223372036854775807) (hc:∀ j,j < zs.length->w.cell? ⟨b,off + j,none⟩=some (.int .i64 (zs.getD j 0))) :
 Calls prog 99 #[.slice (some ⟨b,off,none⟩) n c,.int .i64 x] w fun e w'=>e=.returned (.int .i64 (Lib.idxOf (zs.take n) x))/\w'=w:=Any.slices_Index_int lays108 b off n c zs x w hz hbig hc
open Go.Lib in
theorem slices_Index_int_empty (a:Option Addr) (c:Nat) (x:Int) (w:World) :
 Calls prog 99 #[.slice a 0 c,.int .i64 x] w fun e w'=>e=.returned (.int .i64 (Lib.idxOf [] x))/\w'=w:=Any.slices_Index_int_empty lays108 a c x w
def lays107_ren:Ren:=⟨fun | 107=>305 | 108=>99 | n=>n,fun | 28=>35 | 3=>3 | 4=>4 | 0=>0 | n=>n,fun | n=>n⟩
theorem lays107:Lays.n107 prog lays107_ren:={
 mixed:=by kernel_rfl,f107:=fk func305,f108:=fk func99,t0:=underlying0,a0:=isAgg0,z0:=sizeOf0,v0:=zeroValue0,t3:=underlying3,a3:=isAgg3,z3:=sizeOf3,v3:=zeroValue3,t4:=underlying4,a4:=isAgg4,z4:=sizeOf4,v4:=zeroValue4,t28:=underlying35,a28:=isAgg35,z28:=sizeOf35,v28:=zeroValue35}
open Go.Lib in
theorem slices_Contains_int (b off n c:Nat) (zs:List Int) (x:Int) (w:World) (hz:n ≤ zs.length) (hbig:n ≤ 9223372036854775807) (hc:∀ j,j < zs.length->w.cell? ⟨b,off + j,none⟩=some (.int .i64 (zs.getD j 0))) :
 Calls prog 305 #[.slice (some ⟨b,off,none⟩) n c,.int .i64 x] w fun e w'=>e=.returned (.bool ((zs.take n).contains x))/\w'=w:=Any.slices_Contains_int lays107 b off n c zs x w hz hbig hc
open Go.Lib in
theorem slices_Contains_int_empty (a:Option Addr) (c:Nat) (x:Int) (w:World) :
 Calls prog 305 #[.slice a 0 c,.int .i64 x] w fun e w'=>e=.returned (.bool false)/\w'=w:=Any.slices_Contains_int_empty lays107 a c x w
end Go.Proofs.Tryz
