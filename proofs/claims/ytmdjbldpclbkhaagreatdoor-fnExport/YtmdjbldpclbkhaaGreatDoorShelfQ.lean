import Derived.Shelf.Strings.OnBuilder
import Derived.Shelf.Small.Wraps
import Derived.Shelf.Strings.BuilderK
import Derived.Shelf.Strconv.Itoa4
import Derived.Shelf.Strconv.ErrVarParseInt
import Derived.Shelf.Slices.Turned
import Derived.Test.YtmdjbldpclbkhaaGreatDoorProg
import Derived.Shelf.Strings.SplitShaped
namespace Go.Proofs.Tryz
open Go Go.Shelf Go.RowKit
theorem fk {α:Type}{x:Option α}{a b:α}(h:x=some a)(e:a=b:=by kernel_rfl):x=some b:=h.trans (congrArg some e)
def lays121_ren:Ren:=⟨fun | 121=>155 | 214=>196 | n=>n,fun | 4=>4 | 9=>9 | n=>n,fun | n=>n⟩
theorem lays121:Lays.n121 prog lays121_ren:={
 mixed:=by kernel_rfl,f121:=fk func155,f214:=fk func196,t4:=underlying4,a4:=isAgg4,z4:=sizeOf4,v4:=zeroValue4,t9:=underlying9,a9:=isAgg9,z9:=sizeOf9,v9:=zeroValue9}
theorem strconv_FormatBool (b:Bool) (w:World) :
 Calls prog 155 #[.bool b] w fun e w'=>e=.returned (.string ⟨(Lib.formatBool b).toArray⟩)/\w'=w:=Any.strconv_FormatBool lays121 b w
def laysM173_ren:Ren:=⟨fun | 173=>120 | 246=>153 | 283=>191 | 284=>192 | 285=>193 | 286=>194 | 129=>226 | 317=>225 | 318=>227 | 319=>228 | 320=>229 | 337=>252 | 338=>253 | n=>n,fun | 2=>2 | 3=>3 | 9=>9 | 4=>4 | 171=>252 | 0=>0 | 53=>253 | 37=>22 | 5=>5 | 173=>256 | 212=>277 | 51=>150 | 20=>20 | 213=>278 | 46=>279 | 232=>307 | 233=>308 | n=>n,fun | 17=>0 | 18=>5 | 19=>6 | n=>n⟩
theorem laysM173:Go.Proofs.LaysM.n173 prog laysM173_ren:={
 mixed:=by kernel_rfl,f129:=fk func226,f173:=fk func120,f246:=fk func153,f283:=fk func191,f284:=fk func192,f285:=fk func193,f286:=fk func194,f317:=fk func225,f318:=fk func227,f319:=fk func228,f320:=fk func229,f337:=fk func252,f338:=fk func253,t0:=underlying0,a0:=isAgg0,z0:=sizeOf0,v0:=zeroValue0,t2:=underlying2,a2:=isAgg2,z2:=sizeOf2,v2:=zeroValue2,t3:=underlying3,a3:=isAgg3,z3:=sizeOf3,v3:=zeroValue3,t4:=underlying4,a4:=isAgg4,z4:=sizeOf4,v4:=zeroValue4,t5:=underlying5,a5:=isAgg5,z5:=sizeOf5,v5:=zeroValue5,t9:=underlying9,a9:=isAgg9,z9:=sizeOf9,v9:=zeroValue9,t20:=underlying20,a20:=isAgg20,z20:=sizeOf20,v20:=zeroValue20,t37:=underlying22,a37:=isAgg22,z37:=sizeOf22,v37:=zeroValue22,t46:=underlying279,a46:=isAgg279,z46:=sizeOf279,v46:=zeroValue279,t51:=underlying150,a51:=isAgg150,z51:=sizeOf150,v51:=zeroValue150,t53:=underlying253,a53:=isAgg253,z53:=sizeOf253,v53:=zeroValue253,t171:=underlying252,a171:=isAgg252,z171:=sizeOf252,v171:=zeroValue252,t173:=underlying256,a173:=isAgg256,z173:=sizeOf256,v173:=zeroValue256,t212:=underlying277,a212:=isAgg277,z212:=sizeOf277,v212:=zeroValue277,t213:=underlying278,a213:=isAgg278,z213:=sizeOf278,t232:=underlying307,a232:=isAgg307,z232:=sizeOf307,v232:=zeroValue307,t233:=underlying308,a233:=isAgg308,z233:=sizeOf308,v233:=zeroValue308,g17:=by kernel_rfl,g18:=by kernel_rfl,g19:=by kernel_rfl,i0:=by kernel_rfl,i2:=by kernel_rfl,i3:=by kernel_rfl,i4:=by kernel_rfl,i5:=by kernel_rfl,i9:=by kernel_rfl,i20:=by kernel_rfl,i37:=by kernel_rfl,i46:=by kernel_rfl,i51:=by kernel_rfl,i53:=by kernel_rfl,i171:=by kernel_rfl,i173:=by kernel_rfl,i212:=by kernel_rfl,i232:=by kernel_rfl,i233:=by kernel_rfl,m17:=by kernel_rfl,m18:=by kernel_rfl,m19:=by kernel_rfl}
open Go.RowKit Go.Sort Go.Lib in
theorem strconv_FormatInt_10 (n:Int) (h0:-9223372036854775808 ≤ n) (h1:n ≤ 9223372036854775807) (w:World) (htab:Lib.TabIs prog w "internal/strconv.uint64pow10" .u64 Lib.pow10Tab) :
 Calls prog 120 #[.int .i64 n,.int .i64 10] w fun e w'=>e=.returned (.string ⟨(Lib.itoa n).toArray⟩)/\∃ k os,w'=grow (w.drewN k) os:=Any.strconv_FormatInt_10 laysM173 n h0 h1 w htab
def laysC174_ren:Ren:=⟨fun | 174=>223 | 247=>250 | 245=>251 | 287=>265 | 279=>266 | 280=>267 | 281=>268 | 282=>269 | 321=>277 | 322=>278 | 316=>279 | 171=>281 | 205=>280 | 243=>284 | 246=>153 | 283=>191 | 284=>192 | 285=>193 | 286=>194 | 129=>226 | 317=>225 | 318=>227 | 319=>228 | 320=>229 | 337=>252 | 338=>253 | n=>n,fun | 9=>9 | 3=>3 | 2=>2 | 75=>191 | 85=>273 | 4=>4 | 167=>301 | 5=>5 | 53=>253 | 175=>302 | 46=>279 | 168=>304 | 37=>22 | 0=>0 | 210=>313 | 21=>21 | 127=>197 | 145=>318 | 143=>316 | 171=>252 | 173=>256 | 212=>277 | 51=>150 | 20=>20 | 213=>278 | 232=>307 | 233=>308 | 80=>149 | n=>n,fun | 15=>7 | 16=>8 | 17=>0 | 18=>5 | 19=>6 | n=>n⟩
theorem laysC174:Go.Proofs.LaysC.n174 prog laysC174_ren:={
 mixed:=by kernel_rfl,f129:=fk func226,f171:=fk func281,f174:=fk func223,f205:=fk func280,f243:=fk func284,f245:=fk func251,f246:=fk func153,f247:=fk func250,f279:=fk func266,f280:=fk func267,f281:=fk func268,f282:=fk func269,f283:=fk func191,f284:=fk func192,f285:=fk func193,f286:=fk func194,f287:=fk func265,f316:=fk func279,f317:=fk func225,f318:=fk func227,f319:=fk func228,f320:=fk func229,f321:=fk func277,f322:=fk func278,f337:=fk func252,f338:=fk func253,t0:=underlying0,a0:=isAgg0,z0:=sizeOf0,v0:=zeroValue0,t2:=underlying2,a2:=isAgg2,z2:=sizeOf2,v2:=zeroValue2,t3:=underlying3,a3:=isAgg3,z3:=sizeOf3,v3:=zeroValue3,t4:=underlying4,a4:=isAgg4,z4:=sizeOf4,v4:=zeroValue4,t5:=underlying5,a5:=isAgg5,z5:=sizeOf5,v5:=zeroValue5,t9:=underlying9,a9:=isAgg9,z9:=sizeOf9,v9:=zeroValue9,t20:=underlying20,a20:=isAgg20,z20:=sizeOf20,v20:=zeroValue20,t21:=underlying21,a21:=isAgg21,z21:=sizeOf21,v21:=zeroValue21,t37:=underlying22,a37:=isAgg22,z37:=sizeOf22,v37:=zeroValue22,t46:=underlying279,a46:=isAgg279,z46:=sizeOf279,v46:=zeroValue279,t51:=underlying150,a51:=isAgg150,z51:=sizeOf150,v51:=zeroValue150,t53:=underlying253,a53:=isAgg253,z53:=sizeOf253,v53:=zeroValue253,t75:=underlying191,a75:=isAgg191,z75:=sizeOf191,v75:=zeroValue191,t85:=underlying273,a85:=isAgg273,z85:=sizeOf273,v85:=zeroValue273,t127:=underlying197,a127:=isAgg197,z127:=sizeOf197,v127:=zeroValue197,t143:=underlying316,a143:=isAgg316,z143:=sizeOf316,v143:=zeroValue316,t145:=underlying318,a145:=isAgg318,z145:=sizeOf318,v145:=zeroValue318,t167:=underlying301,a167:=isAgg301,z167:=sizeOf301,v167:=zeroValue301,t168:=underlying304,a168:=isAgg304,z168:=sizeOf304,v168:=zeroValue304,t171:=underlying252,a171:=isAgg252,z171:=sizeOf252,v171:=zeroValue252,t173:=underlying256,a173:=isAgg256,z173:=sizeOf256,v173:=zeroValue256,t175:=underlying302,a175:=isAgg302,z175:=sizeOf302,v175:=zeroValue302,t210:=underlying313,a210:=isAgg313,z210:=sizeOf313,v210:=zeroValue313,t212:=underlying277,a212:=isAgg277,z212:=sizeOf277,v212:=zeroValue277,t213:=underlying278,a213:=isAgg278,z213:=sizeOf278,t232:=underlying307,a232:=isAgg307,z232:=sizeOf307,v232:=zeroValue307,t233:=underlying308,a233:=isAgg308,z233:=sizeOf308,v233:=zeroValue308,g15:=by kernel_rfl,g16:=by kernel_rfl,g17:=by kernel_rfl,g18:=by kernel_rfl,g19:=by kernel_rfl,t80:=underlying149,a80:=isAgg149,z80:=sizeOf149,v80:=zeroValue149,i0:=by kernel_rfl,i2:=by kernel_rfl,i3:=by kernel_rfl,i4:=by kernel_rfl,i5:=by kernel_rfl,i9:=by kernel_rfl,i20:=by kernel_rfl,i21:=by kernel_rfl,i37:=by kernel_rfl,i46:=by kernel_rfl,i51:=by kernel_rfl,i53:=by kernel_rfl,i75:=by kernel_rfl,i80:=by kernel_rfl,i85:=by kernel_rfl,i127:=by kernel_rfl,i143:=by kernel_rfl,i145:=by kernel_rfl,i167:=by kernel_rfl,i168:=by kernel_rfl,i171:=by kernel_rfl,i173:=by kernel_rfl,i175:=by kernel_rfl,i210:=by kernel_rfl,i212:=by kernel_rfl,i232:=by kernel_rfl,i233:=by kernel_rfl,m15:=by kernel_rfl,m16:=by kernel_rfl,m17:=by kernel_rfl,m18:=by kernel_rfl,m19:=by kernel_rfl,c0:=by kernel_rfl,c2:=by kernel_rfl,c3:=by kernel_rfl,c4:=by kernel_rfl,c5:=by kernel_rfl,c9:=by kernel_rfl,c20:=by kernel_rfl,c21:=by kernel_rfl,c37:=by kernel_rfl,c46:=by kernel_rfl,c51:=by kernel_rfl,c53:=by kernel_rfl,c75:=by kernel_rfl,c80:=by kernel_rfl,c85:=by kernel_rfl,c127:=by kernel_rfl,c143:=by kernel_rfl,c145:=by kernel_rfl,c167:=by kernel_rfl,c168:=by kernel_rfl,c171:=by kernel_rfl,c173:=by kernel_rfl,c175:=by kernel_rfl,c210:=by kernel_rfl,c212:=by kernel_rfl,c213:=by kernel_rfl,c232:=by kernel_rfl,c233:=by kernel_rfl}
theorem strconv_ParseInt_10_at64_ok (s:ByteArray) (hmax:s.size ≤ 9223372036854775806) (v:Int) (h:Lib.parseIntB 64 s.data.toList=.ok v) (w:World) :
 Calls prog 223 #[.string s,.int .i64 10,.int .i64 64] w fun e w'=>e=.returned (.tuple #[.int .i64 v,.nilIface])/\(w'=w ∨ ∃ t,w'=Lib.bytesWorld w 5 t):=Any.strconv_ParseInt_10_at64_ok laysC174 s hmax v h w
theorem strconv_ParseInt_10_at64_syntax_var (s:ByteArray) (hlim:s.size ≤ 281474976710656) (h:Lib.parseIntB 64 s.data.toList=.«syntax») (tp:TypeId) (p:Value) (w:World) (hvar:w.var? prog "strconv.ErrSyntax"=some #[.iface tp p]) :
 Calls prog 223 #[.string s,.int .i64 10,.int .i64 64] w fun e w'=>∃ N,e=.returned (.tuple #[.int .i64 (0),.iface 304 (.pointer (some ⟨N,0,none⟩))])/\w.heap.size ≤ N/\w'.heap[N]?=some (.cells #[.string ⟨#[80,97,114,115,101,73,110,116]⟩,.string s,.iface tp p] 313 (0,0))/\Below w.heap.size w w':=Any.strconv_ParseInt_10_at64_syntax_var laysC174 s hlim h tp p w hvar
theorem strconv_ParseInt_10_at64_range_var (s:ByteArray) (hlim:s.size ≤ 281474976710656) (h:Lib.parseIntB 64 s.data.toList=.range) (tp:TypeId) (p:Value) (w:World) (hvar:w.var? prog "strconv.ErrRange"=some #[.iface tp p]) :
 Calls prog 223 #[.string s,.int .i64 10,.int .i64 64] w fun e w'=>∃ N,e=.returned (.tuple #[.int .i64 (Lib.intSat 64 s.data.toList),.iface 304 (.pointer (some ⟨N,0,none⟩))])/\w.heap.size ≤ N/\w'.heap[N]?=some (.cells #[.string ⟨#[80,97,114,115,101,73,110,116]⟩,.string s,.iface tp p] 313 (0,0))/\Below w.heap.size w w':=Any.strconv_ParseInt_10_at64_range_var laysC174 s hlim h tp p w hvar
def lays169_ren:Ren:=⟨fun | 169=>80 | n=>n,fun | 70=>143 | 9=>9 | 0=>0 | 72=>145 | 37=>22 | 127=>197 | 3=>3 | 5=>5 | n=>n,fun | n=>n⟩
theorem lays169:Lays.n169 prog lays169_ren:={
 mixed:=by kernel_rfl,f169:=fk func80,t0:=underlying0,a0:=isAgg0,z0:=sizeOf0,v0:=zeroValue0,t3:=underlying3,a3:=isAgg3,z3:=sizeOf3,v3:=zeroValue3,t9:=underlying9,a9:=isAgg9,z9:=sizeOf9,v9:=zeroValue9,t37:=underlying22,a37:=isAgg22,z37:=sizeOf22,v37:=zeroValue22,t70:=underlying143,a70:=isAgg143,z70:=sizeOf143,v70:=zeroValue143,t72:=underlying145,a72:=isAgg145,z72:=sizeOf145,v72:=zeroValue145,t127:=underlying197,a127:=isAgg197,z127:=sizeOf197,v127:=zeroValue197}
theorem Builder_Extra_169:Builder.Extra prog lays169_ren:={
 sizeBuilder:=by kernel_rfl
 liesBuilder:=by kernel_rfl
 t5:=underlying5
 a5:=isAgg5
 z5:=sizeOf5
 v5:=zeroValue5
 infoByte:=by kernel_rfl
 cellsByte:=by kernel_rfl
 sizeByte:=by kernel_rfl
 neB5:=by decide }
theorem Builder_String_any (B b:Nat) (l:List UInt8) (w:World) (h:Lib.IsBuilder 145 5 B b (Lib.byteCells l) w) (hBw:B ≤ w.heap.size) :
 Calls prog 80 #[.pointer (some ⟨b,0,none⟩)] w fun e w'=>e=.returned (.string ⟨l.toArray⟩)/\Below B w w':=Any.Builder_String_any lays169 Builder_Extra_169 B b l w h hBw
def lays156_ren:Ren:=⟨fun | 156=>118 | 165=>152 | 166=>117 | 169=>80 | 240=>151 | 241=>190 | 276=>189 | 277=>224 | n=>n,fun | 31=>23 | 9=>9 | 3=>3 | 4=>4 | 0=>0 | 20=>20 | 72=>145 | 76=>192 | 70=>143 | 37=>22 | 75=>191 | 127=>197 | 164=>250 | 5=>5 | 80=>149 | n=>n,fun | n=>n⟩
theorem lays156:Lays.n156 prog lays156_ren:={
 mixed:=by kernel_rfl,f156:=fk func118,f165:=fk func152,f166:=fk func117,f169:=fk func80,f240:=fk func151,f241:=fk func190,f276:=fk func189,f277:=fk func224,t0:=underlying0,a0:=isAgg0,z0:=sizeOf0,v0:=zeroValue0,t3:=underlying3,a3:=isAgg3,z3:=sizeOf3,v3:=zeroValue3,t4:=underlying4,a4:=isAgg4,z4:=sizeOf4,v4:=zeroValue4,t9:=underlying9,a9:=isAgg9,z9:=sizeOf9,v9:=zeroValue9,t20:=underlying20,a20:=isAgg20,z20:=sizeOf20,v20:=zeroValue20,t31:=underlying23,a31:=isAgg23,z31:=sizeOf23,v31:=zeroValue23,t37:=underlying22,a37:=isAgg22,z37:=sizeOf22,v37:=zeroValue22,t70:=underlying143,a70:=isAgg143,z70:=sizeOf143,v70:=zeroValue143,t72:=underlying145,a72:=isAgg145,z72:=sizeOf145,v72:=zeroValue145,t75:=underlying191,a75:=isAgg191,z75:=sizeOf191,v75:=zeroValue191,t76:=underlying192,a76:=isAgg192,z76:=sizeOf192,v76:=zeroValue192,t127:=underlying197,a127:=isAgg197,z127:=sizeOf197,v127:=zeroValue197,t164:=underlying250,a164:=isAgg250,z164:=sizeOf250,v164:=zeroValue250}
theorem Builder_Extra_156:Builder.Extra prog lays156_ren:={
 sizeBuilder:=by kernel_rfl
 liesBuilder:=by kernel_rfl
 t5:=underlying5
 a5:=isAgg5
 z5:=sizeOf5
 v5:=zeroValue5
 infoByte:=by kernel_rfl
 cellsByte:=by kernel_rfl
 sizeByte:=by kernel_rfl
 neB5:=by decide }
theorem strings_Join_none (a:Option Addr) (c:Nat) (sep:ByteArray) (w:World) :
 Calls prog 118 #[.slice a 0 c,.string sep] w fun e w'=>e=.returned (.string ⟨#[]⟩)/\w'=w:=Any.strings_Join_none lays156 Builder_Extra_156 a c sep w
theorem strings_Join (bk o c:Nat) (xs:List ByteArray) (sep:ByteArray) (w:World) (hcells:∀ (j:Nat) x,xs[j]?=some x->w.cell? ⟨bk,o + j,none⟩=some (.string x)) (hbk:bk < w.heap.size) (hN:xs.length ≤ 140737488355328) (hcap:xs.length ≤ c) (hlen:(Lib.join (xs.map (·.data.toList)) sep.data.toList).length ≤ 140737488355328) :
 Calls prog 118 #[.slice (some ⟨bk,o,none⟩) xs.length c,.string sep] w fun e w'=>e=.returned (.string ⟨(Lib.join (xs.map (·.data.toList)) sep.data.toList).toArray⟩)/\Below w.heap.size w w':=Any.strings_Join lays156 Builder_Extra_156 bk o c xs sep w hcells hbk hN hcap hlen
def lays100_ren:Ren:=⟨fun | 100=>71 | 207=>111 | n=>n,fun | 9=>9 | 4=>4 | 3=>3 | n=>n,fun | n=>n⟩
theorem lays100:Lays.n100 prog lays100_ren:={
 mixed:=by kernel_rfl,f100:=fk func71,f207:=fk func111,t3:=underlying3,a3:=isAgg3,z3:=sizeOf3,v3:=zeroValue3,t4:=underlying4,a4:=isAgg4,z4:=sizeOf4,v4:=zeroValue4,t9:=underlying9,a9:=isAgg9,z9:=sizeOf9,v9:=zeroValue9}
open Go.RowKit Go.Lib in
theorem strings_HasSuffix (s p:ByteArray) (w:World) (hs:s.size ≤ 9223372036854775807) :
 Calls prog 71 #[.string s,.string p] w fun e w'=>e=.returned (.bool (Lib.hasSuffix s.data.toList p.data.toList))/\w'=w:=Any.strings_HasSuffix lays100 s p w hs
def laysM146_ren:Ren:=⟨fun | 146=>112 | 221=>148 | 268=>182 | 138=>183 | 143=>184 | 195=>219 | 197=>220 | 218=>221 | 219=>222 | 260=>245 | 217=>246 | 225=>247 | 224=>248 | 267=>249 | 266=>263 | 314=>264 | n=>n,fun | 9=>9 | 31=>23 | 3=>3 | 4=>4 | 0=>0 | 105=>270 | 21=>21 | 5=>5 | 46=>279 | 119=>295 | 139=>298 | 138=>297 | 146=>299 | 51=>150 | n=>n,fun | 1=>1 | 3=>3 | 4=>4 | n=>n⟩
theorem laysM146:Go.Proofs.LaysM.n146 prog laysM146_ren:={
 mixed:=by kernel_rfl
 f138:=fk func183
 f143:=fk func184
 f146:=fk func112
 f195:=fk func219
 f197:=fk func220
 f217:=fk func246
 f218:=fk func221
 f219:=fk func222
 f221:=fk func148
 f224:=fk func248
 f225:=fk func247
 f260:=fk func245
 f266:=fk func263
 f267:=fk func249
 f268:=fk func182
 f314:=fk func264
 t0:=underlying0
 a0:=isAgg0
 z0:=sizeOf0
 v0:=zeroValue0
 t3:=underlying3
 a3:=isAgg3
 z3:=sizeOf3
 v3:=zeroValue3
 t4:=underlying4
 a4:=isAgg4
 z4:=sizeOf4
 v4:=zeroValue4
 t5:=underlying5
 a5:=isAgg5
 z5:=sizeOf5
 v5:=zeroValue5
 t9:=underlying9
 a9:=isAgg9
 z9:=sizeOf9
 v9:=zeroValue9
 t21:=underlying21
 a21:=isAgg21
 z21:=sizeOf21
 v21:=zeroValue21
 t31:=underlying23
 a31:=isAgg23
 z31:=sizeOf23
 v31:=zeroValue23
 t46:=underlying279
 a46:=isAgg279
 z46:=sizeOf279
 v46:=zeroValue279
 t51:=underlying150
 a51:=isAgg150
 z51:=sizeOf150
 v51:=zeroValue150
 t105:=underlying270
 a105:=isAgg270
 z105:=sizeOf270
 v105:=zeroValue270
 t119:=underlying295
 a119:=isAgg295
 z119:=sizeOf295
 t138:=underlying297
 a138:=isAgg297
 z138:=sizeOf297
 v138:=zeroValue297
 t139:=underlying298
 a139:=isAgg298
 z139:=sizeOf298
 v139:=zeroValue298
 t146:=underlying299
 a146:=isAgg299
 z146:=sizeOf299
 v146:=zeroValue299
 g1:=by kernel_rfl
 g3:=by kernel_rfl
 g4:=by kernel_rfl
 i0:=by kernel_rfl
 i3:=by kernel_rfl
 i4:=by kernel_rfl
 i5:=by kernel_rfl
 i9:=by kernel_rfl
 i21:=by kernel_rfl
 i31:=by kernel_rfl
 i46:=by kernel_rfl
 i51:=by kernel_rfl
 i105:=by kernel_rfl
 i138:=by kernel_rfl
 i139:=by kernel_rfl
 i146:=by kernel_rfl
 m1:=by kernel_rfl
 s1_3:=fun w h=>Go.Proofs.cell_of_shapedOpen_int (zero:=#[.int .i64 0]) (t:=3) h (of_decide_eq_true (by kernel_rfl)) (by kernel_rfl) rfl (by kernel_rfl) (by kernel_rfl) underlying3
 m3:=by kernel_rfl
 m4:=by kernel_rfl }
open Go.RowKit Go.Lib in
theorem strings_Split_shaped (s sep:ByteArray) (w:World) (h:w.ShapedOpen prog) (hs:s.size < 4294967281) (h1:1 ≤ sep.size) :
 Calls prog 112 #[.string s,.string sep] w fun e w' =>
 e=.returned (.slice (some ⟨w.heap.size,0,none⟩) (Lib.countB s sep + 1) (Lib.countB s sep + 1))/\w'=w.alloc (.cells ((Lib.splitB sep 0 (Lib.countB s sep) s).map Value.string).toArray 9):=Any.strings_Split_shaped laysM146 s sep w h hs h1
def laysM147_ren:Ren:=⟨fun | 147=>113 | 221=>148 | 268=>182 | 138=>183 | 143=>184 | 195=>219 | 197=>220 | 218=>221 | 219=>222 | 260=>245 | 217=>246 | 225=>247 | 224=>248 | 267=>249 | 266=>263 | 314=>264 | n=>n,fun | 9=>9 | 3=>3 | 31=>23 | 4=>4 | 0=>0 | 105=>270 | 21=>21 | 5=>5 | 46=>279 | 119=>295 | 139=>298 | 138=>297 | 146=>299 | 51=>150 | n=>n,fun | 1=>1 | 3=>3 | 4=>4 | n=>n⟩
theorem laysM147:Go.Proofs.LaysM.n147 prog laysM147_ren:={
 mixed:=by kernel_rfl
 f138:=fk func183
 f143:=fk func184
 f147:=fk func113
 f195:=fk func219
 f197:=fk func220
 f217:=fk func246
 f218:=fk func221
 f219:=fk func222
 f221:=fk func148
 f224:=fk func248
 f225:=fk func247
 f260:=fk func245
 f266:=fk func263
 f267:=fk func249
 f268:=fk func182
 f314:=fk func264
 t0:=underlying0
 a0:=isAgg0
 z0:=sizeOf0
 v0:=zeroValue0
 t3:=underlying3
 a3:=isAgg3
 z3:=sizeOf3
 v3:=zeroValue3
 t4:=underlying4
 a4:=isAgg4
 z4:=sizeOf4
 v4:=zeroValue4
 t5:=underlying5
 a5:=isAgg5
 z5:=sizeOf5
 v5:=zeroValue5
 t9:=underlying9
 a9:=isAgg9
 z9:=sizeOf9
 v9:=zeroValue9
 t21:=underlying21
 a21:=isAgg21
 z21:=sizeOf21
 v21:=zeroValue21
 t31:=underlying23
 a31:=isAgg23
 z31:=sizeOf23
 v31:=zeroValue23
 t46:=underlying279
 a46:=isAgg279
 z46:=sizeOf279
 v46:=zeroValue279
 t51:=underlying150
 a51:=isAgg150
 z51:=sizeOf150
 v51:=zeroValue150
 t105:=underlying270
 a105:=isAgg270
 z105:=sizeOf270
 v105:=zeroValue270
 t119:=underlying295
 a119:=isAgg295
 z119:=sizeOf295
 t138:=underlying297
 a138:=isAgg297
 z138:=sizeOf297
 v138:=zeroValue297
 t139:=underlying298
 a139:=isAgg298
 z139:=sizeOf298
 v139:=zeroValue298
 t146:=underlying299
 a146:=isAgg299
 z146:=sizeOf299
 v146:=zeroValue299
 g1:=by kernel_rfl
 g3:=by kernel_rfl
 g4:=by kernel_rfl
 i0:=by kernel_rfl
 i3:=by kernel_rfl
 i4:=by kernel_rfl
 i5:=by kernel_rfl
 i9:=by kernel_rfl
 i21:=by kernel_rfl
 i31:=by kernel_rfl
 i46:=by kernel_rfl
 i51:=by kernel_rfl
 i105:=by kernel_rfl
 i138:=by kernel_rfl
 i139:=by kernel_rfl
 i146:=by kernel_rfl
 m1:=by kernel_rfl
 s1_3:=fun w h=>Go.Proofs.cell_of_shapedOpen_int (zero:=#[.int .i64 0]) (t:=3) h (of_decide_eq_true (by kernel_rfl)) (by kernel_rfl) rfl (by kernel_rfl) (by kernel_rfl) underlying3
 m3:=by kernel_rfl
 m4:=by kernel_rfl }
open Go.RowKit Go.Lib in
theorem strings_SplitN_shaped (s sep:ByteArray) (n:Nat) (w:World) (h:w.ShapedOpen prog) (hs:s.size < 4294967281) (h1:1 ≤ sep.size) (hn:1 ≤ n) (hn63:n ≤ 9223372036854775807) :
 Calls prog 113 #[.string s,.string sep,.int .i64 n] w fun e w' =>
 e=.returned (.slice (some ⟨w.heap.size,0,none⟩) (Lib.splitB sep 0 (min n (s.size + 1) - 1) s).length (min n (s.size + 1)))/\w'=w.alloc (.cells (Lib.cellsOf (Lib.splitB sep 0 (min n (s.size + 1) - 1) s) (min n (s.size + 1))) 9):=Any.strings_SplitN_shaped laysM147 s sep n w h hs h1 hn hn63
def lays108_ren:Ren:=⟨fun | 108=>218 | n=>n,fun | 28=>34 | 3=>3 | 0=>0 | 4=>4 | n=>n,fun | n=>n⟩
theorem lays108:Lays.n108 prog lays108_ren:={
 mixed:=by kernel_rfl,f108:=fk func218,t0:=underlying0,a0:=isAgg0,z0:=sizeOf0,v0:=zeroValue0,t3:=underlying3,a3:=isAgg3,z3:=sizeOf3,v3:=zeroValue3,t4:=underlying4,a4:=isAgg4,z4:=sizeOf4,v4:=zeroValue4,t28:=underlying34,a28:=isAgg34,z28:=sizeOf34,v28:=zeroValue34}
open Go.Lib in
theorem slices_Index_int (b off n c:Nat) (zs:List Int) (x:Int) (w:World) (hz:n ≤ zs.length) (hbig:n ≤ 9223372036854775807) (hc:∀ j,j < zs.length->w.cell? ⟨b,off + j,none⟩=some (.int .i64 (zs.getD j 0))) :
 Calls prog 218 #[.slice (some ⟨b,off,none⟩) n c,.int .i64 x] w fun e w'=>e=.returned (.int .i64 (Lib.idxOf (zs.take n) x))/\w'=w:=Any.slices_Index_int lays108 b off n c zs x w hz hbig hc
open Go.Lib in
theorem slices_Index_int_empty (a:Option Addr) (c:Nat) (x:Int) (w:World) :
 Calls prog 218 #[.slice a 0 c,.int .i64 x] w fun e w'=>e=.returned (.int .i64 (Lib.idxOf [] x))/\w'=w:=Any.slices_Index_int_empty lays108 a c x w
def lays107_ren:Ren:=⟨fun | 107=>274 | 108=>218 | n=>n,fun | 28=>34 | 3=>3 | 4=>4 | 0=>0 | n=>n,fun | n=>n⟩
theorem lays107:Lays.n107 prog lays107_ren:={
 mixed:=by kernel_rfl,f107:=fk func274,f108:=fk func218,t0:=underlying0,a0:=isAgg0,z0:=sizeOf0,v0:=zeroValue0,t3:=underlying3,a3:=isAgg3,z3:=sizeOf3,v3:=zeroValue3,t4:=underlying4,a4:=isAgg4,z4:=sizeOf4,v4:=zeroValue4,t28:=underlying34,a28:=isAgg34,z28:=sizeOf34,v28:=zeroValue34}
open Go.Lib in
theorem slices_Contains_int (b off n c:Nat) (zs:List Int) (x:Int) (w:World) (hz:n ≤ zs.length) (hbig:n ≤ 9223372036854775807) (hc:∀ j,j < zs.length->w.cell? ⟨b,off + j,none⟩=some (.int .i64 (zs.getD j 0))) :
 Calls prog 274 #[.slice (some ⟨b,off,none⟩) n c,.int .i64 x] w fun e w'=>e=.returned (.bool ((zs.take n).contains x))/\w'=w:=Any.slices_Contains_int lays107 b off n c zs x w hz hbig hc
open Go.Lib in
theorem slices_Contains_int_empty (a:Option Addr) (c:Nat) (x:Int) (w:World) :
 Calls prog 274 #[.slice a 0 c,.int .i64 x] w fun e w'=>e=.returned (.bool false)/\w'=w:=Any.slices_Contains_int_empty lays107 a c x w
end Go.Proofs.Tryz
