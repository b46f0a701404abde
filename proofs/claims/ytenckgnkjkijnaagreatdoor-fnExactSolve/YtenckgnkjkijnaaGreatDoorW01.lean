import Derived.Test.YtenckgnkjkijnaaGreatDoorW00
import Derived.Lib.ItoaLen
set_option maxRecDepth 100000
set_option maxHeartbeats 64000000
namespace Go.Proofs.YtenckgnkjkijnaaGreatDoor
open Go Go.RowKit Go.Proofs.Tryz
def tb (b:Nat):Bool:=decide (32<=b/\b<=126/\b≠34)
theorem q2l (b:Nat)(w:Tw) :
 Calls prog 147 #[.int .u8 b] w fun a c=>a=.returned (.bool (tb b))/\c=w:=by
 by_cases c:32<=b
 . by_cases d:b<=126
   . by_cases a:b=34
     all_goals
      go_enter func147,ntmps147;go_wp2;go_ret;exact⟨qln (by first | (subst a;decide) | (simp[tb,c,d,a] <;> omega)),rfl⟩
   . go_enter func147,ntmps147
     go_wp2;go_ret;exact⟨qln (by simp[tb] <;> omega),rfl⟩
 . go_enter func147,ntmps147
   go_wp2;go_ret;exact⟨qln (by simp[tb] <;> omega),rfl⟩
theorem q2j (b:Nat)(w:Tw) :
 Calls prog 152 #[.int .u8 b] w fun a c=>a=.returned (.bool (tb b))/\c=w:=by
 by_cases c:32<=b
 . by_cases d:b<=126
   . by_cases a:b=34
     all_goals
      go_enter func152,ntmps152;go_wp2;go_ret;exact⟨qln (by first | (subst a;decide) | (simp[tb,c,d,a] <;> omega)),rfl⟩
   . go_enter func152,ntmps152
     go_wp2;go_ret;exact⟨qln (by simp[tb] <;> omega),rfl⟩
 . go_enter func152,ntmps152
   go_wp2;go_ret;exact⟨qln (by simp[tb] <;> omega),rfl⟩
def kaw (s:Tb):Bool:=decide (s.size<=1000)&&s.data.toList.all fun c=>tb c.toNat
theorem qc3 {s:Tb}:kaw s=true ↔ s.size<=1000/\∀a (c:a<s.size),tb s[a].toNat=true:=by
 simp only[kaw,Yh,Yk,Yv];refine and_congr_right fun _=>⟨fun b a c=>b _ (by simp[ByteArray.getElem_eq_getElem_data]),fun b e d=>?_⟩;obtain⟨a,c,rfl⟩:=Yx.1 d;exact b a (by simpa using c)
theorem qc4 {s:Tb}(c:s.size<=1000)(b:∀a (d:a<s.size),tb s[a].toNat=true):kaw s=true:=qc3.2 ⟨c,b⟩
theorem qg8 {s:Tb}{k:Nat}(c:k<s.size)(b:tb s[k].toNat=false):kaw s=false:=by
 cases a:kaw s with
 | false=>rfl
 | true=>have:=(qc3.1 a).2 k c;rw[b]at this;cases this
theorem q2k (s:Tb)(w:Tw)(l:s.size<=9223372036854775807) :
 Calls prog 109 #[.string s] w fun c f=>c=.returned (.bool (kaw s))/\f=w:=by
 by_cases h:s.size<=1000
 . go_enter func109,ntmps109
   go_wp2;go_loopw [3] (fun e wr=>∃b:Nat,b<=s.size/\e=J6 b/\(∀a (d:a<s.size),a<b->tb (s[a]).toNat=true)/\wr=w) (fun e _=>s.size - (intOf e).toNat)
   case atStart=>exact⟨0,nZ _,rfl,fun a e e=>absurd e (nL _),rfl⟩
   case round =>
    obtain⟨b,j,rfl,i,rfl⟩:=hrel;have g:=h_ i;by_cases k:b<s.size
    . cases e:tb s[b].toNat
      . go_wp2_with (go_at_call 147;refine(q2l _ _).mono ?_;rintro c f ⟨rfl,rfl⟩;rw[e])
        go_ret;exact⟨qln (qg8 k e).symm,rfl⟩
      . go_wp2_with (go_at_call 147;refine(q2l _ _).mono ?_;rintro c f ⟨rfl,rfl⟩;rw[e])
        go_roundw
        case rel=>exact⟨b+1,by omega,by go_num,fun a d j=>by
         by_cases c:a=b
         . subst c;exact e
         . exact g a d (by omega),trivial⟩
        case measure=>simp[intOf];omega
    . go_wp2
      go_ret;exact⟨qln (qc4 h fun a d=>g a d (by omega)).symm,rfl⟩
 . go_enter func109,ntmps109
   go_wp2;go_ret;exact⟨qln (by simp[kaw,h]),rfl⟩
theorem qb8 (s:Tb)(w:Tw)(l:s.size<=9223372036854775807) :
 Calls prog 113 #[.string s] w fun c f=>c=.returned (.bool (kaw s))/\f=w:=by
 by_cases h:s.size<=1000
 . go_enter func113,ntmps113
   go_wp2;go_loopw [9] (fun e wr=>∃b:Nat,b<=s.size/\e=J6 b/\(∀a (d:a<s.size),a<b->tb (s[a]).toNat=true)/\wr=w) (fun e _=>s.size - (intOf e).toNat)
   case atStart=>exact⟨0,nZ _,rfl,fun a e e=>absurd e (nL _),rfl⟩
   case round =>
    obtain⟨b,j,rfl,i,rfl⟩:=hrel;have g:=h_ i;by_cases k:b<s.size
    . cases e:tb s[b].toNat
      . go_wp2_with (go_at_call 152;refine(q2j _ _).mono ?_;rintro c f ⟨rfl,rfl⟩;rw[e])
        go_ret;exact⟨qln (qg8 k e).symm,rfl⟩
      . go_wp2_with (go_at_call 152;refine(q2j _ _).mono ?_;rintro c f ⟨rfl,rfl⟩;rw[e])
        go_roundw
        case rel=>exact⟨b+1,by omega,by go_num,fun a d j=>by
         by_cases c:a=b
         . subst c;exact e
         . exact g a d (by omega),trivial⟩
        case measure=>simp[intOf];omega
    . go_wp2
      go_ret;exact⟨qln (qc4 h fun a d=>g a d (by omega)).symm,rfl⟩
 . go_enter func113,ntmps113
   go_wp2;go_ret;exact⟨qln (by simp[kaw,h]),rfl⟩
theorem kag {w:Tw}{b:Nat}{t:TypeId}{v u c:Value}(a:Blk w b t [v,u,c]) :
 w.cell? ⟨b,0,none⟩=some v/\w.cell? ⟨b,1,none⟩=some u/\w.cell? ⟨b,2,none⟩=some c:=⟨a.cell 0,a.cell 1,a.cell 2⟩
theorem kdx (s:Tb):((s.size:Int)==0)=decide (s.size=0):=by rw[Zh];simp
theorem kdj (s:Tb):s.toList.isEmpty=decide (s.size=0):=by
 rw[Y7];obtain⟨⟨a⟩⟩:=s;cases a <;> simp[ByteArray.size]
def kah (kind num:Int)(s:Tb):Bool :=
 if kind=0 then decide (num=0)&&decide (s.size=0)
 else if kind=1 then decide (s.size=0)
 else if kind=2 then decide (num=0∨num=1)&&decide (s.size=0)
 else if kind=3 then decide (num=0)&&kaw s
 else if kind=4 then decide (1<=num/\num<=5)&&decide (s.size=0)
 else false
theorem keL (k:Int):k=0∨k=1∨k=2∨k=3∨k=4∨(¬ k=0/\¬ k=1/\¬ k=2/\¬ k=3/\¬ k=4):=by omega
theorem khj (n:Int):n=0∨n=1∨(¬ n=0/\¬ n=1):=by omega
theorem khk (n:Int):n<1∨(1<=n/\5<n)∨(1<=n/\n<=5):=by omega
theorem q30 (e a:Int)(s:Tb)(w:Tw)(f:s.size<=9223372036854775807) :
 Gv 76 #[.agg (Jc e a s)] w (.bool (kah e a s)):=by
 have b:=kdx s;have c:=h_ b;clear b;rcases keL e with rfl | rfl | rfl | rfl | rfl | ⟨g,h,i,j,k⟩
 . by_cases b:a=0
   all_goals
    go_enter func76,ntmps76;go_wp2;go_ret;exact⟨qln (by simp[kah,b,c.u]),(bR _ _).alloc (nR _) _⟩
 . go_enter func76,ntmps76
   go_wp2;go_ret;exact⟨qln (by simp[kah,c.u]),(bR _ _).alloc (nR _) _⟩
 . rcases khj a with rfl | rfl | ⟨b,d⟩
   . go_enter func76,ntmps76
     go_wp2;go_ret;exact⟨qln (by simp[kah,c.u]),(bR _ _).alloc (nR _) _⟩
   . go_enter func76,ntmps76
     go_wp2;go_ret;exact⟨qln (by simp[kah,c.u]),(bR _ _).alloc (nR _) _⟩
   . go_enter func76,ntmps76
     go_wp2;go_ret;exact⟨qln (by simp[kah,b,d]),(bR _ _).alloc (nR _) _⟩
 . by_cases b:a=0
   . go_enter func76,ntmps76
     go_wp2_with (go_at_call 109;refine(q2k s _ f).mono ?_;rintro l m ⟨rfl,rfl⟩);go_ret;exact⟨qln (by simp[kah,b]),(bR _ _).alloc (nR _) _⟩
   . go_enter func76,ntmps76
     go_wp2;go_ret;exact⟨qln (by simp[kah,b]),(bR _ _).alloc (nR _) _⟩
 . rcases khk a with d | ⟨d,b⟩ | ⟨d,b⟩
   . go_enter func76,ntmps76
     go_wp2;go_ret;exact⟨qln (by simp[kah,show ¬ 1<=a by omega]),(bR _ _).alloc (nR _) _⟩
   . go_enter func76,ntmps76
     go_wp2;go_ret;exact⟨qln (by simp[kah,show ¬ a<=5 by omega]),(bR _ _).alloc (nR _) _⟩
   . go_enter func76,ntmps76
     go_wp2;go_ret;exact⟨qln (by simp[kah,d,b,c.u]),(bR _ _).alloc (nR _) _⟩
 . go_enter func76,ntmps76
   go_wp2;go_ret;exact⟨qln (by simp[kah,g,h,i,j,k]),(bR _ _).alloc (nR _) _⟩
theorem q2d (e a:Int)(s:Tb)(w:Tw)(f:s.size<=9223372036854775807) :
 Gv 81 #[.agg (Jc e a s)] w (.bool (kah e a s)):=by
 have b:=kdj s;have c:=h_ b;clear b;rcases keL e with rfl | rfl | rfl | rfl | rfl | ⟨g,h,i,j,k⟩
 . by_cases b:a=0
   all_goals
    go_enter func81,ntmps81;go_wp2;go_ret;exact⟨qln (by simp only[kah];simp[b,c.u]),(bR _ _).alloc (nR _) _⟩
 . go_enter func81,ntmps81
   go_wp2;go_ret;exact⟨qln (by simp[kah,c.u]),(bR _ _).alloc (nR _) _⟩
 . rcases khj a with rfl | rfl | ⟨b,d⟩
   . go_enter func81,ntmps81
     go_wp2;go_ret;exact⟨qln (by simp[kah,c.u]),(bR _ _).alloc (nR _) _⟩
   . go_enter func81,ntmps81
     go_wp2;go_ret;exact⟨qln (by simp[kah,c.u]),(bR _ _).alloc (nR _) _⟩
   . go_enter func81,ntmps81
     go_wp2;go_ret;exact⟨qln (by simp[kah,b,d]),(bR _ _).alloc (nR _) _⟩
 . by_cases b:a=0
   . go_enter func81,ntmps81
     go_wp2_with (go_at_call 113;refine(qb8 s _ f).mono ?_;rintro l m ⟨rfl,rfl⟩);go_ret;exact⟨qln (by simp[kah,b]),(bR _ _).alloc (nR _) _⟩
   . go_enter func81,ntmps81
     go_wp2;go_ret;exact⟨qln (by simp[kah,b]),(bR _ _).alloc (nR _) _⟩
 . rcases khk a with d | ⟨d,b⟩ | ⟨d,b⟩
   . go_enter func81,ntmps81
     go_wp2;go_ret;exact⟨qln (by simp[kah,show ¬ 1<=a by omega]),(bR _ _).alloc (nR _) _⟩
   . go_enter func81,ntmps81
     go_wp2;go_ret;exact⟨qln (by simp[kah,show ¬ a<=5 by omega]),(bR _ _).alloc (nR _) _⟩
   . go_enter func81,ntmps81
     go_wp2;go_ret;exact⟨qln (by simp[kah,d,b,c.u]),(bR _ _).alloc (nR _) _⟩
 . go_enter func81,ntmps81
   go_wp2;go_ret;exact⟨qln (by simp[kah,g,h,i,j,k]),(bR _ _).alloc (nR _) _⟩
end Go.Proofs.YtenckgnkjkijnaaGreatDoor
namespace Go.Proofs.YtenckgnkjkijnaaGreatDoor
open Go Go.Proofs.Tryz
def kbm (kind num:Int)(s:Tb):Tb :=
 if kah kind num s then
  if kind=0 then ⟨#[98,108,97,110,107]⟩
  else if kind=1 then ⟨(Lib.itoa num).toArray⟩
  else if kind=2 then (if num=1 then ⟨#[116,114,117,101]⟩ else ⟨#[102,97,108,115,101]⟩)
  else if kind=3 then ⟨#[34]⟩++s++⟨#[34]⟩
  else ⟨#[33]⟩++⟨(Lib.itoa num).toArray⟩
 else ⟨#[63]⟩
theorem bsz (a:Array UInt8):(⟨a⟩:Tb).size=a.size:=rfl
theorem qfi (x:Int)(a:-9223372036854775808<=x)(b:x<=9223372036854775807):(⟨(Lib.itoa x).toArray⟩:Tb).size<=21:=Lib.itoa_length_le x a b
theorem qpi (x:Int):1<=(Lib.itoa x).length:=by
 unfold Lib.itoa;split
 . simp
 . rw[Lib.decDigits_length];exact Lib.nDigits_pos _
theorem qct (b c:Int)(s:Tb)(a:kah b c s=true)(k:0<=c)(i:c<=9223372036854775807):1+s.size<=(kbm b c s).size/\(kbm b c s).size<=1050:=by
 have l:=qfi c (by omega) i;have m:1<=(⟨(Lib.itoa c).toArray⟩:Tb).size:=qpi c;unfold kbm;rw[Yr a];unfold kah at a;by_cases d:b=0
 . rw[Yr d]at a⊢;simp only[Yh,Yk]at a;simp only[bsz,Zg,Yt,Y2];omega
 rw[Yl d]at a⊢;by_cases e:b=1
 . rw[Yr e]at a⊢;simp only[Yk]at a;omega
 rw[Yl e]at a⊢;by_cases f:b=2
 . rw[Yr f]at a⊢;simp only[Yh,Yk]at a;split <;> simp only[bsz,Zg,Yt,Y2] <;> omega
 rw[Yl f]at a⊢;by_cases g:b=3
 . rw[Yr g]at a⊢;simp only[Yh,Yk]at a
   have:=(qc3.1 a.2).1;simp only[Ym,bsz,Zg,Yt,Y2];omega
 rw[Yl g]at a⊢;by_cases h:b=4
 . rw[Yr h]at a;simp only[Yh,Yk]at a
   simp only[Ym];have j:(⟨#[33]⟩:Tb).size=1:=rfl;omega
 . rw[Yl h]at a;cases a
