import Derived.Shelf.Strings.OnBuilder
import Derived.Shelf.Small.Strs
import Derived.Shelf.Small.Wraps
import Derived.Shelf.Strings.BuilderK
import Derived.Shelf.Strconv.Itoa4
import Derived.Shelf.Strconv.ErrVarParseInt
import Derived.Shelf.Slices.Turned
import Derived.Test.YtcnjbclpncidnaaGreatDoorProg
namespace Go.Proofs.Tryz
open Go Go.Shelf Go.RowKit
theorem fk {α:Type}{x:Option α}{a b:α}(h:x=some a)(e:a=b:=by kernel_rfl):x=some b:=h.trans (congrArg some e)
def lays137_ren:Ren:=⟨fun | 137=>196 | 217=>237 | 266=>271 | n=>n,fun | 9=>9 | 5=>5 | 3=>3 | n=>n,fun | n=>n⟩
theorem lays137:Lays.n137 prog lays137_ren:={
 mixed:=by kernel_rfl,f137:=fk func196,f217:=fk func237,f266:=fk func271,t3:=underlying3,a3:=isAgg3,z3:=sizeOf3,v3:=zeroValue3,t5:=underlying5,a5:=isAgg5,z5:=sizeOf5,v5:=zeroValue5,t9:=underlying9,a9:=isAgg9,z9:=sizeOf9,v9:=zeroValue9}
theorem strings_IndexByte (s:ByteArray) (c:Int) (w:World) :
 Calls prog 196 #[.string s,.int .u8 c] w fun e w'=>e=.returned (.int .i64 (Lib.indexByte s.data.toList c.toNat.toUInt8))/\w'=w:=Any.strings_IndexByte lays137 s c w
def lays121_ren:Ren:=⟨fun | 121=>248 | 214=>281 | n=>n,fun | 4=>4 | 9=>9 | n=>n,fun | n=>n⟩
theorem lays121:Lays.n121 prog lays121_ren:={
 mixed:=by kernel_rfl,f121:=fk func248,f214:=fk func281,t4:=underlying4,a4:=isAgg4,z4:=sizeOf4,v4:=zeroValue4,t9:=underlying9,a9:=isAgg9,z9:=sizeOf9,v9:=zeroValue9}
theorem strconv_FormatBool (b:Bool) (w:World) :
 Calls prog 248 #[.bool b] w fun e w'=>e=.returned (.string ⟨(Lib.formatBool b).toArray⟩)/\w'=w:=Any.strconv_FormatBool lays121 b w
def laysM173_ren:Ren:=⟨fun | 173=>247 | 246=>280 | 283=>303 | 284=>304 | 285=>305 | 286=>306 | 129=>325 | 317=>324 | 318=>326 | 319=>327 | 320=>328 | 337=>330 | 338=>341 | n=>n,fun | 2=>2 | 3=>3 | 9=>9 | 4=>4 | 171=>294 | 0=>0 | 53=>295 | 37=>22 | 5=>5 | 173=>298 | 212=>312 | 51=>256 | 20=>20 | 213=>313 | 46=>303 | 232=>322 | 233=>326 | n=>n,fun | 17=>4 | 18=>7 | 19=>8 | n=>n⟩
theorem laysM173:Go.Proofs.LaysM.n173 prog laysM173_ren:={
 mixed:=by kernel_rfl,f129:=fk func325,f173:=fk func247,f246:=fk func280,f283:=fk func303,f284:=fk func304,f285:=fk func305,f286:=fk func306,f317:=fk func324,f318:=fk func326,f319:=fk func327,f320:=fk func328,f337:=fk func330,f338:=fk func341,t0:=underlying0,a0:=isAgg0,z0:=sizeOf0,v0:=zeroValue0,t2:=underlying2,a2:=isAgg2,z2:=sizeOf2,v2:=zeroValue2,t3:=underlying3,a3:=isAgg3,z3:=sizeOf3,v3:=zeroValue3,t4:=underlying4,a4:=isAgg4,z4:=sizeOf4,v4:=zeroValue4,t5:=underlying5,a5:=isAgg5,z5:=sizeOf5,v5:=zeroValue5,t9:=underlying9,a9:=isAgg9,z9:=sizeOf9,v9:=zeroValue9,t20:=underlying20,a20:=isAgg20,z20:=sizeOf20,v20:=zeroValue20,t37:=underlying22,a37:=isAgg22,z37:=sizeOf22,v37:=zeroValue22,t46:=underlying303,a46:=isAgg303,z46:=sizeOf303,v46:=zeroValue303,t51:=underlying256,a51:=isAgg256,z51:=sizeOf256,v51:=zeroValue256,t53:=underlying295,a53:=isAgg295,z53:=sizeOf295,v53:=zeroValue295,t171:=underlying294,a171:=isAgg294,z171:=sizeOf294,v171:=zeroValue294,t173:=underlying298,a173:=isAgg298,z173:=sizeOf298,v173:=zeroValue298,t212:=underlying312,a212:=isAgg312,z212:=sizeOf312,v212:=zeroValue312,t213:=underlying313,a213:=isAgg313,z213:=sizeOf313,t232:=underlying322,a232:=isAgg322,z232:=sizeOf322,v232:=zeroValue322,t233:=underlying326,a233:=isAgg326,z233:=sizeOf326,v233:=zeroValue326,g17:=by kernel_rfl,g18:=by kernel_rfl,g19:=by kernel_rfl,i0:=by kernel_rfl,i2:=by kernel_rfl,i3:=by kernel_rfl,i4:=by kernel_rfl,i5:=by kernel_rfl,i9:=by kernel_rfl,i20:=by kernel_rfl,i37:=by kernel_rfl,i46:=by kernel_rfl,i51:=by kernel_rfl,i53:=by kernel_rfl,i171:=by kernel_rfl,i173:=by kernel_rfl,i212:=by kernel_rfl,i232:=by kernel_rfl,i233:=by kernel_rfl,m17:=by kernel_rfl,m18:=by kernel_rfl,m19:=by kernel_rfl}
open Go.RowKit Go.Sort Go.Lib in
theorem strconv_FormatInt_10 (n:Int) (h0:-9223372036854775808 ≤ n) (h1:n ≤ 9223372036854775807) (w:World) (htab:Lib.TabIs prog w "internal/strconv.uint64pow10" .u64 Lib.pow10Tab) :
 Calls prog 247 #[.int .i64 n,.int .i64 10] w fun e w'=>e=.returned (.string ⟨(Lib.itoa n).toArray⟩)/\∃ k os,w'=grow (w.drewN k) os:=Any.strconv_FormatInt_10 laysM173 n h0 h1 w htab
def laysC174_ren:Ren:=⟨fun | 174=>272 | 247=>296 | 245=>297 | 287=>315 | 279=>316 | 280=>317 | 281=>318 | 282=>319 | 321=>331 | 322=>332 | 316=>333 | 171=>335 | 205=>334 | 243=>342 | 246=>280 | 283=>303 | 284=>304 | 285=>305 | 286=>306 | 129=>325 | 317=>324 | 318=>326 | 319=>327 | 320=>328 | 337=>330 | 338=>341 | n=>n,fun | 9=>9 | 3=>3 | 2=>2 | 75=>180 | 85=>274 | 4=>4 | 167=>300 | 5=>5 | 53=>295 | 175=>301 | 46=>303 | 168=>304 | 37=>22 | 0=>0 | 210=>319 | 21=>21 | 127=>188 | 145=>325 | 143=>323 | 171=>294 | 173=>298 | 212=>312 | 51=>256 | 20=>20 | 213=>313 | 232=>322 | 233=>326 | 80=>125 | n=>n,fun | 15=>5 | 16=>6 | 17=>4 | 18=>7 | 19=>8 | n=>n⟩
theorem laysC174:Go.Proofs.LaysC.n174 prog laysC174_ren:={
 mixed:=by kernel_rfl,f129:=fk func325,f171:=fk func335,f174:=fk func272,f205:=fk func334,f243:=fk func342,f245:=fk func297,f246:=fk func280,f247:=fk func296,f279:=fk func316,f280:=fk func317,f281:=fk func318,f282:=fk func319,f283:=fk func303,f284:=fk func304,f285:=fk func305,f286:=fk func306,f287:=fk func315,f316:=fk func333,f317:=fk func324,f318:=fk func326,f319:=fk func327,f320:=fk func328,f321:=fk func331,f322:=fk func332,f337:=fk func330,f338:=fk func341,t0:=underlying0,a0:=isAgg0,z0:=sizeOf0,v0:=zeroValue0,t2:=underlying2,a2:=isAgg2,z2:=sizeOf2,v2:=zeroValue2,t3:=underlying3,a3:=isAgg3,z3:=sizeOf3,v3:=zeroValue3,t4:=underlying4,a4:=isAgg4,z4:=sizeOf4,v4:=zeroValue4,t5:=underlying5,a5:=isAgg5,z5:=sizeOf5,v5:=zeroValue5,t9:=underlying9,a9:=isAgg9,z9:=sizeOf9,v9:=zeroValue9,t20:=underlying20,a20:=isAgg20,z20:=sizeOf20,v20:=zeroValue20,t21:=underlying21,a21:=isAgg21,z21:=sizeOf21,v21:=zeroValue21,t37:=underlying22,a37:=isAgg22,z37:=sizeOf22,v37:=zeroValue22,t46:=underlying303,a46:=isAgg303,z46:=sizeOf303,v46:=zeroValue303,t51:=underlying256,a51:=isAgg256,z51:=sizeOf256,v51:=zeroValue256,t53:=underlying295,a53:=isAgg295,z53:=sizeOf295,v53:=zeroValue295,t75:=underlying180,a75:=isAgg180,z75:=sizeOf180,v75:=zeroValue180,t85:=underlying274,a85:=isAgg274,z85:=sizeOf274,v85:=zeroValue274,t127:=underlying188,a127:=isAgg188,z127:=sizeOf188,v127:=zeroValue188,t143:=underlying323,a143:=isAgg323,z143:=sizeOf323,v143:=zeroValue323,t145:=underlying325,a145:=isAgg325,z145:=sizeOf325,v145:=zeroValue325,t167:=underlying300,a167:=isAgg300,z167:=sizeOf300,v167:=zeroValue300,t168:=underlying304,a168:=isAgg304,z168:=sizeOf304,v168:=zeroValue304,t171:=underlying294,a171:=isAgg294,z171:=sizeOf294,v171:=zeroValue294,t173:=underlying298,a173:=isAgg298,z173:=sizeOf298,v173:=zeroValue298,t175:=underlying301,a175:=isAgg301,z175:=sizeOf301,v175:=zeroValue301,t210:=underlying319,a210:=isAgg319,z210:=sizeOf319,v210:=zeroValue319,t212:=underlying312,a212:=isAgg312,z212:=sizeOf312,v212:=zeroValue312,t213:=underlying313,a213:=isAgg313,z213:=sizeOf313,t232:=underlying322,a232:=isAgg322,z232:=sizeOf322,v232:=zeroValue322,t233:=underlying326,a233:=isAgg326,z233:=sizeOf326,v233:=zeroValue326,g15:=by kernel_rfl,g16:=by kernel_rfl,g17:=by kernel_rfl,g18:=by kernel_rfl,g19:=by kernel_rfl,t80:=underlying125,a80:=isAgg125,z80:=sizeOf125,v80:=zeroValue125,i0:=by kernel_rfl,i2:=by kernel_rfl,i3:=by kernel_rfl,i4:=by kernel_rfl,i5:=by kernel_rfl,i9:=by kernel_rfl,i20:=by kernel_rfl,i21:=by kernel_rfl,i37:=by kernel_rfl,i46:=by kernel_rfl,i51:=by kernel_rfl,i53:=by kernel_rfl,i75:=by kernel_rfl,i80:=by kernel_rfl,i85:=by kernel_rfl,i127:=by kernel_rfl,i143:=by kernel_rfl,i145:=by kernel_rfl,i167:=by kernel_rfl,i168:=by kernel_rfl,i171:=by kernel_rfl,i173:=by kernel_rfl,i175:=by kernel_rfl,i210:=by kernel_rfl,i212:=by kernel_rfl,i232:=by kernel_rfl,i233:=by kernel_rfl,m15:=by kernel_rfl,m16:=by kernel_rfl,m17:=by kernel_rfl,m18:=by kernel_rfl,m19:=by kernel_rfl,c0:=by kernel_rfl,c2:=by kernel_rfl,c3:=by kernel_rfl,c4:=by kernel_rfl,c5:=by kernel_rfl,c9:=by kernel_rfl,c20:=by kernel_rfl,c21:=by kernel_rfl,c37:=by kernel_rfl,c46:=by kernel_rfl,c51:=by kernel_rfl,c53:=by kernel_rfl,c75:=by kernel_rfl,c80:=by kernel_rfl,c85:=by kernel_rfl,c127:=by kernel_rfl,c143:=by kernel_rfl,c145:=by kernel_rfl,c167:=by kernel_rfl,c168:=by kernel_rfl,c171:=by kernel_rfl,c173:=by kernel_rfl,c175:=by kernel_rfl,c210:=by kernel_rfl,c212:=by kernel_rfl,c213:=by kernel_rfl,c232:=by kernel_rfl,c233:=by kernel_rfl}
theorem strconv_ParseInt_10_at64_ok (s:ByteArray) (hmax:s.size ≤ 9223372036854775806) (v:Int) (h:Lib.parseIntB 64 s.data.toList=.ok v) (w:World) :
 Calls prog 272 #[.string s,.int .i64 10,.int .i64 64] w fun e w'=>e=.returned (.tuple #[.int .i64 v,.nilIface])/\(w'=w ∨ ∃ t,w'=Lib.bytesWorld w 5 t):=Any.strconv_ParseInt_10_at64_ok laysC174 s hmax v h w
theorem strconv_ParseInt_10_at64_syntax_var (s:ByteArray) (hlim:s.size ≤ 281474976710656) (h:Lib.parseIntB 64 s.data.toList=.«syntax») (tp:TypeId) (p:Value) (w:World) (hvar:w.var? prog "strconv.ErrSyntax"=some #[.iface tp p]) :
 Calls prog 272 #[.string s,.int .i64 10,.int .i64 64] w fun e w'=>∃ N,e=.returned (.tuple #[.int .i64 (0),.iface 304 (.pointer (some ⟨N,0,none⟩))])/\w.heap.size ≤ N/\w'.heap[N]?=some (.cells #[.string ⟨#[80,97,114,115,101,73,110,116]⟩,.string s,.iface tp p] 319 (0,0))/\Below w.heap.size w w':=Any.strconv_ParseInt_10_at64_syntax_var laysC174 s hlim h tp p w hvar
theorem strconv_ParseInt_10_at64_range_var (s:ByteArray) (hlim:s.size ≤ 281474976710656) (h:Lib.parseIntB 64 s.data.toList=.range) (tp:TypeId) (p:Value) (w:World) (hvar:w.var? prog "strconv.ErrRange"=some #[.iface tp p]) :
 Calls prog 272 #[.string s,.int .i64 10,.int .i64 64] w fun e w'=>∃ N,e=.returned (.tuple #[.int .i64 (Lib.intSat 64 s.data.toList),.iface 304 (.pointer (some ⟨N,0,none⟩))])/\w.heap.size ≤ N/\w'.heap[N]?=some (.cells #[.string ⟨#[80,97,114,115,101,73,110,116]⟩,.string s,.iface tp p] 319 (0,0))/\Below w.heap.size w w':=Any.strconv_ParseInt_10_at64_range_var laysC174 s hlim h tp p w hvar
def lays169_ren:Ren:=⟨fun | 169=>90 | n=>n,fun | 70=>120 | 9=>9 | 0=>0 | 72=>122 | 37=>22 | 127=>188 | 3=>3 | 5=>5 | n=>n,fun | n=>n⟩
theorem lays169:Lays.n169 prog lays169_ren:={
 mixed:=by kernel_rfl,f169:=fk func90,t0:=underlying0,a0:=isAgg0,z0:=sizeOf0,v0:=zeroValue0,t3:=underlying3,a3:=isAgg3,z3:=sizeOf3,v3:=zeroValue3,t9:=underlying9,a9:=isAgg9,z9:=sizeOf9,v9:=zeroValue9,t37:=underlying22,a37:=isAgg22,z37:=sizeOf22,v37:=zeroValue22,t70:=underlying120,a70:=isAgg120,z70:=sizeOf120,v70:=zeroValue120,t72:=underlying122,a72:=isAgg122,z72:=sizeOf122,v72:=zeroValue122,t127:=underlying188,a127:=isAgg188,z127:=sizeOf188,v127:=zeroValue188}
theorem Builder_Extra_169:Builder.Extra prog lays169_ren:={
 sizeBuilder:=by kernel_rfl
 liesBuilder:=by kernel_rfl
 t5:=underlying5
 a5:=isAgg5
 z5:=sizeOf5
 v5:=zeroValue5
 infoByte:=by kernel_rfl
 cellsByte:=by kernel_rfl
 sizeByte:=by kernel_rfl
 neB5:=by decide }
theorem Builder_String_any (B b:Nat) (l:List UInt8) (w:World) (h:Lib.IsBuilder 122 5 B b (Lib.byteCells l) w) (hBw:B ≤ w.heap.size) :
 Calls prog 90 #[.pointer (some ⟨b,0,none⟩)] w fun e w'=>e=.returned (.string ⟨l.toArray⟩)/\Below B w w':=Any.Builder_String_any lays169 Builder_Extra_169 B b l w h hBw
def lays156_ren:Ren:=⟨fun | 156=>152 | 165=>206 | 166=>151 | 169=>90 | 240=>205 | 241=>246 | 276=>245 | 277=>279 | n=>n,fun | 31=>23 | 9=>9 | 3=>3 | 4=>4 | 0=>0 | 20=>20 | 72=>122 | 76=>181 | 70=>120 | 37=>22 | 75=>180 | 127=>188 | 164=>248 | 5=>5 | 80=>125 | n=>n,fun | n=>n⟩
theorem lays156:Lays.n156 prog lays156_ren:={
 mixed:=by kernel_rfl,f156:=fk func152,f165:=fk func206,f166:=fk func151,f169:=fk func90,f240:=fk func205,f241:=fk func246,f276:=fk func245,f277:=fk func279,t0:=underlying0,a0:=isAgg0,z0:=sizeOf0,v0:=zeroValue0,t3:=underlying3,a3:=isAgg3,z3:=sizeOf3,v3:=zeroValue3,t4:=underlying4,a4:=isAgg4,z4:=sizeOf4,v4:=zeroValue4,t9:=underlying9,a9:=isAgg9,z9:=sizeOf9,v9:=zeroValue9,t20:=underlying20,a20:=isAgg20,z20:=sizeOf20,v20:=zeroValue20,t31:=underlying23,a31:=isAgg23,z31:=sizeOf23,v31:=zeroValue23,t37:=underlying22,a37:=isAgg22,z37:=sizeOf22,v37:=zeroValue22,t70:=underlying120,a70:=isAgg120,z70:=sizeOf120,v70:=zeroValue120,t72:=underlying122,a72:=isAgg122,z72:=sizeOf122,v72:=zeroValue122,t75:=underlying180,a75:=isAgg180,z75:=sizeOf180,v75:=zeroValue180,t76:=underlying181,a76:=isAgg181,z76:=sizeOf181,v76:=zeroValue181,t127:=underlying188,a127:=isAgg188,z127:=sizeOf188,v127:=zeroValue188,t164:=underlying248,a164:=isAgg248,z164:=sizeOf248,v164:=zeroValue248}
theorem Builder_Extra_156:Builder.Extra prog lays156_ren:={
 sizeBuilder:=by kernel_rfl
 liesBuilder:=by kernel_rfl
 t5:=underlying5
 a5:=isAgg5
 z5:=sizeOf5
 v5:=zeroValue5
 infoByte:=by kernel_rfl
 cellsByte:=by kernel_rfl
 sizeByte:=by kernel_rfl
 neB5:=by decide }
theorem strings_Join_none (a:Option Addr) (c:Nat) (sep:ByteArray) (w:World) :
 Calls prog 152 #[.slice a 0 c,.string sep] w fun e w'=>e=.returned (.string ⟨#[]⟩)/\w'=w:=Any.strings_Join_none lays156 Builder_Extra_156 a c sep w
theorem strings_Join (bk o c:Nat) (xs:List ByteArray) (sep:ByteArray) (w:World) (hcells:∀ (j:Nat) x,xs[j]?=some x->w.cell? ⟨bk,o + j,none⟩=some (.string x)) (hbk:bk < w.heap.size) (hN:xs.length ≤ 140737488355328) (hcap:xs.length ≤ c) (hlen:(Lib.join (xs.map (·.data.toList)) sep.data.toList).length ≤ 140737488355328) :
 Calls prog 152 #[.slice (some ⟨bk,o,none⟩) xs.length c,.string sep] w fun e w'=>e=.returned (.string ⟨(Lib.join (xs.map (·.data.toList)) sep.data.toList).toArray⟩)/\Below w.heap.size w w':=Any.strings_Join lays156 Builder_Extra_156 bk o c xs sep w hcells hbk hN hcap hlen
def lays108_ren:Ren:=⟨fun | 108=>270 | n=>n,fun | 28=>51 | 3=>3 | 0=>0 | 4=>4 | n=>n,fun | n=>n⟩
theorem lays108:Lays.n108 prog lays108_ren:={
 mixed:=by kernel_rfl,f108:=fk func270,t0:=underlying0,a0:=isAgg0,z0:=sizeOf0,v0:=zeroValue0,t3:=underlying3,a3:=isAgg3,z3:=sizeOf3,v3:=zeroValue3,t4:=underlying4,a4:=isAgg4,z4:=sizeOf4,v4:=zeroValue4,t28:=underlying51,a28:=isAgg51,z28:=sizeOf51,v28:=zeroValue51}
open Go.Lib in
theorem slices_Index_int (b off n c:Nat) (zs:List Int) (x:Int) (w:World) (hz:n ≤ zs.length) (hbig:n ≤ 9223372036854775807) (hc:∀ j,j < zs.length->w.cell? ⟨b,off + j,none⟩=some (.int .i64 (zs.getD j 0))) :
 Calls prog 270 #[.slice (some ⟨b,off,none⟩) n c,.int .i64 x] w fun e w'=>e=.returned (.int .i64 (Lib.idxOf (zs.take n) x))/\w'=w:=Any.slices_Index_int lays108 b off n c zs x w hz hbig hc
open Go.Lib in
theorem slices_Index_int_empty (a:Option Addr) (c:Nat) (x:Int) (w:World) :
 Calls prog 270 #[.slice a 0 c,.int .i64 x] w fun e w'=>e=.returned (.int .i64 (Lib.idxOf [] x))/\w'=w:=Any.slices_Index_int_empty lays108 a c x w
def lays107_ren:Ren:=⟨fun | 107=>232 | 108=>270 | n=>n,fun | 28=>51 | 3=>3 | 4=>4 | 0=>0 | n=>n,fun | n=>n⟩
theorem lays107:Lays.n107 prog lays107_ren:={
 mixed:=by kernel_rfl,f107:=fk func232,f108:=fk func270,t0:=underlying0,a0:=isAgg0,z0:=sizeOf0,v0:=zeroValue0,t3:=underlying3,a3:=isAgg3,z3:=sizeOf3,v3:=zeroValue3,t4:=underlying4,a4:=isAgg4,z4:=sizeOf4,v4:=zeroValue4,t28:=underlying51,a28:=isAgg51,z28:=sizeOf51,v28:=zeroValue51}
open Go.Lib in
theorem slices_Contains_int (b off n c:Nat) (zs:List Int) (x:Int) (w:World) (hz:n ≤ zs.length) (hbig:n ≤ 9223372036854775807) (hc:∀ j,j < zs.length->w.cell? ⟨b,off + j,none⟩=some (.int .i64 (zs.getD j 0))) :
 Calls prog 232 #[.slice (some ⟨b,off,none⟩) n c,.int .i64 x] w fun e w'=>e=.returned (.bool ((zs.take n).contains x))/\w'=w:=Any.slices_Contains_int lays107 b off n c zs x w hz hbig hc
open Go.Lib in
theorem slices_Contains_int_empty (a:Option Addr) (c:Nat) (x:Int) (w:World) :
 Calls prog 232 #[.slice a 0 c,.int .i64 x] w fun e w'=>e=.returned (.bool false)/\w'=w:=Any.slices_Contains_int_empty lays107 a c x w
def lays109_ren:Ren:=⟨fun | 109=>73 | n=>n,fun | 31=>23 | 9=>9 | 3=>3 | 0=>0 | 4=>4 | n=>n,fun | n=>n⟩
theorem lays109:Lays.n109 prog lays109_ren:={
 mixed:=by kernel_rfl,f109:=fk func73,t0:=underlying0,a0:=isAgg0,z0:=sizeOf0,v0:=zeroValue0,t3:=underlying3,a3:=isAgg3,z3:=sizeOf3,v3:=zeroValue3,t4:=underlying4,a4:=isAgg4,z4:=sizeOf4,v4:=zeroValue4,t9:=underlying9,a9:=isAgg9,z9:=sizeOf9,v9:=zeroValue9,t31:=underlying23,a31:=isAgg23,z31:=sizeOf23,v31:=zeroValue23}
open Go.Lib in
theorem slices_Index_string (b off n c:Nat) (zs:List ByteArray) (x:ByteArray) (w:World) (hz:n ≤ zs.length) (hbig:n ≤ 9223372036854775807) (hc:∀ j,j < zs.length->w.cell? ⟨b,off + j,none⟩=some (.string (zs.getD j ByteArray.empty))) :
 Calls prog 73 #[.slice (some ⟨b,off,none⟩) n c,.string x] w fun e w'=>e=.returned (.int .i64 (Lib.idxOfS (zs.take n) x))/\w'=w:=Any.slices_Index_string lays109 b off n c zs x w hz hbig hc
open Go.Lib in
theorem slices_Index_string_empty (a:Option Addr) (c:Nat) (x:ByteArray) (w:World) :
 Calls prog 73 #[.slice a 0 c,.string x] w fun e w'=>e=.returned (.int .i64 (Lib.idxOfS [] x))/\w'=w:=Any.slices_Index_string_empty lays109 a c x w
end Go.Proofs.Tryz
