import Derived.Test.YtenckgnkjkijnaaGreatDoorW05
import Derived.Test.YtenckgnkjkijnaaGreatDoorW06
set_option maxRecDepth 100000
set_option maxHeartbeats 64000000
namespace Go.Proofs.YtenckgnkjkijnaaGreatDoor
open Go Go.RowKit Go.Proofs.Tryz
variable {w:Tw}{n k i p:Nat}{t:TypeId}{v u:Value}{a:To}{s:Tb}
theorem kg0 (a:0<s.size):s.data.getD 0 0=s[0]:=by
 rw[Array.getD_eq_getD_getElem?,Array.getElem?_eq_getElem (by simpa using a)];rfl
theorem qjg (s:Tb):kaQ s=(decide (1<=s.size/\s.size<=16)&&kbh (s.data.getD 0 0).toNat&&(s.data.toList.all fun a=>kaZ a.toNat)&&!rsv s):=rfl
theorem q2p (s:Tb)(w:Tw)(j:s.size<=9223372036854775807):Calls prog 156 #[.string s] w fun b c=>b=.returned (.bool (kaQ s))/\c=w:=by
 have a:=qjg s;have g:=qlt kaZ s;have o:=qrx kaZ s 0;by_cases k:s.size=0
 . rw[show kaQ s=false by rw[a,Yd (by omega)];rfl]
   have l:((s.size:Int)==0)=true:=by simp[k]
   go_enter func156,ntmps156;go_wp2_with fail;go_ret;exact⟨rfl,rfl⟩
 have l:((s.size:Int)==0)=false:=Yc.2 (by omega);by_cases q:16<s.size
 . rw[show kaQ s=false by rw[a,Yd (by omega)];rfl]
   go_enter func156,ntmps156;go_wp2_with fail;go_ret;exact⟨rfl,rfl⟩
 have m:0<s.size:=by omega
 rw[Ye (by omega),kg0 m,Y9]at a;cases d:kbh (s[0]).toNat
 . rw[show kaQ s=false by rw[a,d];rfl]
   go_enter func156,ntmps156;go_wp2_with (go_at_call 186;refine(q8b _ _).mono ?_;rintro b c ⟨rfl,rfl⟩;rw[d]);go_ret;exact⟨rfl,rfl⟩
 rw[d,Y9]at a;obtain⟨i,h⟩:=Nq (kfQ kaZ s 0);rw[h]at g o;by_cases f:i=s.size
 . rw[g.1 f,Y9]at a
   have p:((i:Int)==(s.size:Int))=true:=by simp[f]
   cases e:rsv s
   all_goals
    rw[e]at a;rw[a];go_enter func156,ntmps156;go_wp2_with (first | (go_at_call 186;refine(q8b _ _).mono ?_;rintro b c ⟨rfl,rfl⟩;rw[d]) | (go_at_call 187;refine(q3r s 0 _ j (nZ _)).mono ?_;rintro b c ⟨rfl,rfl⟩;rw[h]) | (go_at_call 188;refine(q2s _ _).mono ?_;rintro b c ⟨rfl,rfl⟩;rw[e]));go_ret;exact⟨rfl,rfl⟩
 . have n:(s.data.toList.all fun e=>kaZ e.toNat)=false:=by
    cases b:(s.data.toList.all fun e=>kaZ e.toNat)
    . rfl
    . exact absurd (g.2 b) f
   rw[n,Bool.false_and]at a;rw[a];have p:((i:Int)==(s.size:Int))=false:=Yc.2 (by omega);go_enter func156,ntmps156;go_wp2_with (first | (go_at_call 186;refine(q8b _ _).mono ?_;rintro b c ⟨rfl,rfl⟩;rw[d]) | (go_at_call 187;refine(q3r s 0 _ j (nZ _)).mono ?_;rintro b c ⟨rfl,rfl⟩;rw[h]));go_ret;exact⟨rfl,rfl⟩
theorem q2f (s:Tb)(w:Tw)(y:s.size<=9223372036854775807):Calls prog 295 #[.string s] w fun e f=>e=.returned (.bool (kaQ s))/\f=w:=by
 have c:=qjg s;have l:=kdj s;by_cases m:s.size=0
 . rw[show kaQ s=false by rw[c,Yd (by omega)];rfl]
   rw[Ye m]at l;go_enter func295,ntmps295;go_wp2_with fail;go_ret;exact⟨rfl,rfl⟩
 rw[Yd m]at l;by_cases u:16<s.size
 . rw[show kaQ s=false by rw[c,Yd (by omega)];rfl]
   go_enter func295,ntmps295;go_wp2_with fail;go_ret;exact⟨rfl,rfl⟩
 have p:0<s.size:=by omega
 rw[Ye (by omega),kg0 p,Y9]at c;cases h:kbh (s[0]).toNat
 . rw[show kaQ s=false by rw[c,h];rfl]
   go_enter func295,ntmps295;go_wp2_with (go_at_call 318;refine(q5h _ _).mono ?_;rintro e f ⟨rfl,rfl⟩;rw[h]);go_ret;exact⟨rfl,rfl⟩
 rw[h,Y9]at c;cases i:rsv s
 case true =>
  rw[i,show(!true)=false from rfl,Oa]at c;rw[c];go_enter func295,ntmps295;go_wp2_with (first | (go_at_call 318;refine(q5h _ _).mono ?_;rintro e f ⟨rfl,rfl⟩;rw[h]) | (go_at_call 319;refine(q2i _ _).mono ?_;rintro e f ⟨rfl,rfl⟩;rw[i]));go_ret;exact⟨rfl,rfl⟩
 rw[i,show(!false)=true from rfl,Bool.and_true]at c;rw[c];have n:Hi ((∀a (b:a<s.size),kaZ (s[a]).toNat=true)->(s.data.toList.all fun d=>kaZ d.toNat)=true):=by
  refine h_ fun g=>?_;rw[Yv];intro d j;obtain⟨a,b,rfl⟩:=Yx.1 j;exact g a (by simpa using b)
 have o:Hi (∀a (b:a<s.size),kaZ (s[a]).toNat=false->(s.data.toList.all fun d=>kaZ d.toNat)=false):=by
  refine h_ fun a b g=>?_;rw[Zy];exact⟨s[a],by simp[ByteArray.getElem_eq_getElem_data],by simp[g]⟩
 generalize (s.data.toList.all fun d=>kaZ d.toNat)=t at *;go_enter func295,ntmps295;go_wp2_with (first | (go_at_call 318;refine cQ (q5h _ _) fun f g=>?_;replace g:=g.symm;subst g;rw[h]) | (go_at_call 319;refine cQ (q2i _ _) fun f g=>?_;replace g:=g.symm;subst g;rw[i]));go_loopw [23] (fun j wr=>∃d:Nat,d<=s.size/\j=J6 d/\(∀a (b:a<s.size),a<d->kaZ (s[a]).toNat=true)/\wr=w) (fun j _=>s.size - (intOf j).toNat)
 case atStart=>exact⟨0,nZ _,rfl,fun a _ b=>absurd b (nL _),rfl⟩
 case round =>
  obtain⟨d,x,rfl,q,rfl⟩:=hrel;have k:=h_ q;by_cases r:d<s.size
  . cases j:kaZ (s[d]).toNat
    . go_wp2_with (go_at_call 320;refine(q2g _ _).mono ?_;rintro e f ⟨rfl,rfl⟩;rw[j])
      go_ret;exact⟨qln (o d r j).symm,rfl⟩
    . go_wp2_with (go_at_call 320;refine(q2g _ _).mono ?_;rintro e f ⟨rfl,rfl⟩;rw[j])
      go_roundw
      case rel=>exact⟨d+1,by omega,by go_num,fun a b v=>by
       by_cases e:a=d
       . subst e;exact j
       . exact k a b (by omega),trivial⟩
      case measure=>simp[intOf];omega
  . go_wp2_with fail
    go_ret;exact⟨qln (n fun a b=>k a b (by omega)).symm,rfl⟩
def nv (n:Nx):Value:=.agg #[.int .i64 n.op,.int .i64 n.v.k,.int .i64 n.v.n,.string n.v.s,.string n.nm]
def kft (w:Tw)(b o:Nat)(n:Nx):Prop:=b<w.heap.size/\w.cell? ⟨b,o,none⟩=some (.int .i64 n.op)/\w.cell? ⟨b,o+1,none⟩=some (.int .i64 n.v.k)/\w.cell? ⟨b,o+2,none⟩=some (.int .i64 n.v.n)/\w.cell? ⟨b,o+3,none⟩=some (.string n.v.s)/\w.cell? ⟨b,o+4,none⟩=some (.string n.nm)
theorem kft.mono {w':Tw}{b o:Nat}{n:Nx}(a:kft w b o n)(c:Bw w w'):kft w' b o n :=
 ⟨Yn a.1 c.size,(c.cell a.1).trans a.2.1,(c.cell a.1).trans a.2.2.1,(c.cell a.1).trans a.2.2.2.1,(c.cell a.1).trans a.2.2.2.2.1,(c.cell a.1).trans a.2.2.2.2.2⟩
def kch (w:Tw)(a:To)(m:Nat)(e:Nat->Nx):Prop:=∀k,k<m->∃b o,a=some ⟨b,o,none⟩/\kft w b (o+k*5) (e k)
theorem kch.mono {w':Tw}{m:Nat}{b:Nat->Nx}(d:kch w a m b)(e:Bw w w'):kch w' a m b:=fun h g=>by
 obtain⟨c,i,b,f⟩:=d h g;exact⟨c,i,b,f.mono e⟩
def Fit (n:Nx):Prop:=n.v.s.size<=9223372036854775807/\n.nm.size<=9223372036854775807/\-9223372036854775808<=n.v.n/\n.v.n<=9223372036854775807
theorem kaG {b:Nat}{c d e:Value}(a:Blk w b t [v,u,c,d,e]) :
 w.cell? ⟨b,0,none⟩=some v/\w.cell? ⟨b,1,none⟩=some u/\w.cell? ⟨b,2,none⟩=some c/\w.cell? ⟨b,3,none⟩=some d/\w.cell? ⟨b,4,none⟩=some e:=⟨a.cell 0,a.cell 1,a.cell 2,a.cell 3,a.cell 4⟩
theorem khN (a:Int):0<=ar a:=by
 unfold ar;split
 . omega
 . split
   . omega
   . split <;> omega
theorem qig (n:Nx):((arn n:Nat):Int)=ar n.op:=by have:=khN n.op;unfold arn;omega
theorem kg1 (a:Int):a=0∨a=1∨(¬ a=0/\¬ a=1):=by omega
theorem q1i (n:Nx)(w:Tw):Gv 175 #[nv n] w (J6 (arn n)):=by
 rw[qig];unfold nv;have b:=h_ ((bR w.heap.size w).alloc (nR _) (.cells (Je n) 190));go_enter func175,ntmps175;go_wp2_with fail;refine cQ (q83 _ _) fun c a=>?_;replace a:=a.symm;subst a;go_wp2_with fail;go_ret;exact⟨rfl,b⟩
theorem q1o (u:Vx)(w:Tw):Gv 294 #[vv u] w (.bool (decide (u.k=0/\u.n=0/\u.s.size=0))):=by
 unfold vv;have e:=h_ ((bR w.heap.size w).alloc (nR _) (.cells (Jc u.k u.n u.s) 55));have f:=kdx u.s;by_cases a:u.k=0
 . by_cases b:u.n=0
   . by_cases c:u.s.size=0
     . rw[Ye c]at f
       rw[Ye ⟨a,b,c⟩];have g:(u.k==0)=true:=(by simp[a]);have h:(u.n==0)=true:=(by simp[b]);clear a b c;go_enter func294,ntmps294;go_wp2_with fail;go_ret;exact⟨rfl,e⟩
     . rw[Yd c]at f
       rw[Yd (fun d=>c d.2.2)];have g:(u.k==0)=true:=(by simp[a]);have h:(u.n==0)=true:=(by simp[b]);clear a b c;go_enter func294,ntmps294;go_wp2_with fail;go_ret;exact⟨rfl,e⟩
   . rw[Yd (fun d=>b d.2.1)]
     have g:(u.k==0)=true:=(by simp[a]);have h:(u.n==0)=false:=Yc.2 b;clear a b f;go_enter func294,ntmps294;go_wp2_with fail;go_ret;exact⟨rfl,e⟩
 . rw[Yd (fun d=>a d.1)]
   have g:(u.k==0)=false:=Yc.2 a;clear a f;go_enter func294,ntmps294;go_wp2_with fail;go_ret;exact⟨rfl,e⟩
theorem qkp {k n:Int}(a:kah k n s=true)(b:¬ k=1):0<=n:=by
 unfold kah at a;split at a
 . simp only[Yh,Yk]at a;omega
 split at a
 . simp only[Yh,Yk]at a;omega
 split at a
 . simp only[Yh,Yk]at a;omega
 split at a
 . simp only[Yh,Yk]at a;omega
 . cases a
theorem key {n:Nx}(a:n.op=0):kao n=(decide (n.nm.size=0)&&kah n.v.k n.v.n n.v.s&&decide (n.v.k≠4)&&decide (0<=n.v.n)):=by unfold kao;rw[Yr a]
theorem kez {n:Nx}(a:n.op=1):kao n=(decide (n.v.k=0/\n.v.n=0/\n.v.s.size=0)&&kaQ n.nm):=by unfold kao;rw[Yl (by omega),Yr a]
theorem kcW {n:Nx}(a:¬ n.op=0)(b:¬ n.op=1):kao n=(decide (2<=n.op/\n.op<=25)&&decide (n.v.k=0/\n.v.n=0/\n.v.s.size=0)&&decide (n.nm.size=0)):=by unfold kao;rw[Yl a,Yl b]
theorem q2q (n:Nx)(w:Tw)(A:Fit n):Gv 226 #[nv n] w (.bool (kao n)):=by
 obtain⟨C,B,-,-⟩:=A;unfold nv;obtain⟨d,c⟩:=oB (Blk.new w 190 #[J6 n.op,J6 n.v.k,J6 n.v.n,.string n.v.s,.string n.nm]) ((bR w.heap.size w).alloc (nR _) (.cells #[J6 n.op,J6 n.v.k,J6 n.v.n,.string n.v.s,.string n.nm] 190));have j:=kdx n.nm;rcases kg1 n.op with e | e | ⟨e,o⟩
 . have a:=key e
   rw[e]at d c⊢;clear e;by_cases g:n.nm.size=0
   . have y:((n.nm.size:Int) != 0)=false:=by simp[g]
     rw[Ye g]at j a;rw[Y9]at a;go_enter func226,ntmps226;go_wp2_with fail;refine cQ (q30 _ _ _ _ C) fun p f=>?_;replace d:=mB d f;replace c:=mT c f;clear f;obtain⟨q,l,r,t,x⟩:=kaG d;cases m:kah n.v.k n.v.n n.v.s
     . rw[m]at a
       have b:Hi (kao n=false):=h_ a;clear a;go_wp2_with fail;go_ret;exact⟨qln b.symm,c⟩
     . rw[m,Y9]at a
       by_cases h:n.v.k=4
       . have b:Hi (kao n=false):=h_ (by rw[a,Yd (fun e=>e h)];rfl);clear a
         rw[h]at l d;clear h;go_wp2_with fail;go_ret;exact⟨qln b.symm,c⟩
       . rw[Ye h,Y9]at a
         have z:(n.v.k==4)=false:=Yc.2 h;by_cases i:n.v.k=1
         . rw[i]at l d z
           have b:=h_ a;clear a;clear h i;go_wp2_with fail;go_ret;exact⟨qln (by rw[b.u]),c⟩
         . have D:(n.v.k != 1)=true:=by simp[i]
           have b:Hi (kao n=true):=h_ (by rw[a,Ye (qkp m i)]);clear a;clear h i;go_wp2_with fail;go_ret;exact⟨qln b.symm,c⟩
   . have y:((n.nm.size:Int) != 0)=true:=by simp[g]
     rw[Yd g]at j a;have b:Hi (kao n=false):=h_ a;clear a;clear g;go_enter func226,ntmps226;go_wp2_with fail;go_ret;exact⟨qln b.symm,c⟩
 . have a:=kez e
   rw[e]at d c⊢;clear e;go_enter func226,ntmps226;go_wp2_with fail;refine cQ (q1o n.v _) fun p f=>?_;replace d:=mB d f;replace c:=mT c f;clear f;obtain⟨q,l,r,t,x⟩:=kaG d;cases h:decide (n.v.k=0/\n.v.n=0/\n.v.s.size=0)
   . rw[h]at a
     have b:Hi (kao n=false):=h_ a;go_wp2_with fail;go_ret;exact⟨qln b.symm,c⟩
   . rw[h,Y9]at a
     have b:=h_ a;go_wp2_with fail;refine cQ (q2p _ _ B) fun z m=>?_;replace m:=m.symm;subst m;cases y:kaQ n.nm
     all_goals
      rw[y]at b;go_wp2_with fail;go_ret;exact⟨qln b.symm,c⟩
 . have a:=kcW e o
   have i:(n.op==0)=false:=Yc.2 e;have m:(n.op==1)=false:=Yc.2 o;by_cases z:n.op<2
   . have b:Hi (kao n=false):=h_ (by rw[a,Yd (by omega)];rfl);clear a
     go_enter func226,ntmps226;go_wp2_with fail;go_ret;exact⟨qln b.symm,c⟩
   by_cases y:25<n.op
   . have b:Hi (kao n=false):=h_ (by rw[a,Yd (by omega)];rfl);clear a
     go_enter func226,ntmps226;go_wp2_with fail;go_ret;exact⟨qln b.symm,c⟩
   rw[show decide (2<=n.op/\n.op<=25)=true by simp;omega,Y9]at a;go_enter func226,ntmps226;go_wp2_with fail;refine cQ (q1o n.v _) fun p f=>?_;replace d:=mB d f;replace c:=mT c f;obtain⟨q,l,r,t,x⟩:=kaG d;cases h:decide (n.v.k=0/\n.v.n=0/\n.v.s.size=0)
   . rw[h]at a
     have b:Hi (kao n=false):=h_ a;go_wp2_with fail;go_ret;exact⟨qln b.symm,c⟩
   . rw[h,Y9]at a
     have b:=h_ a;by_cases g:n.nm.size=0
     . rw[Ye g]at j b
       go_wp2_with fail;go_ret;exact⟨qln b.symm,c⟩
     . rw[Yd g]at j b
       go_wp2_with fail;go_ret;exact⟨qln b.symm,c⟩
theorem qm5 {a:Nat->Nx}:(stk a i).headD 0=i:=by
 cases i with
 | zero=>rfl
 | succ i=>rfl
theorem qs9 {b:Nat->Nx}(c:1<=n):1<=(stk b n).length:=by
 obtain⟨a,rfl⟩:∃a,n=a+1:=⟨n - 1,by omega⟩;simp[stk]
theorem qcx {a:Nat->Nx}{t:List Nat}(e:1<=n)(d:n<=(stk a (i+1)).length)(f:arn (a i)<=(stk a i).length)(c:t=(stk a (i+1)).drop n) :
 n - 1+arn (a i)<=(stk a i).length/\t=(stk a i).drop (n - 1+arn (a i)):=by
 obtain⟨b,rfl⟩:∃b,n=b+1:=⟨n - 1,by omega⟩;simp only[stk,Yt,List.length_drop]at d;simp only[stk,List.drop_succ_cons,List.drop_drop]at c;refine⟨by omega,?_⟩;rw[c,show b+1 - 1+arn (a i)=arn (a i)+b by omega]
theorem q8d (a:To)(m c:Nat)(d:Nat->Nx)(f:Nat)(w:Tw)(H:m<=1000)(r:kch w a m d)(q:1<=f)(C:f<=m)(x:kbN d f) :
 Gv 176 #[.slice a m c,J6 f] w (J6 (beg d f)):=by
 obtain⟨n,o⟩:=oB r x;go_enter func176,ntmps176;go_wp2_with fail;go_loopw [5,6] (fun h b wr=>∃(e g:Nat),h=J6 g/\b=J6 e/\e<=f/\g<=(stk d e).length/\(stk d f).tail=(stk d e).drop g/\Bw w wr) (fun _ b _=>(intOf b).toNat)
 case atStart=>exact⟨f,1,rfl,rfl,nR _,qs9 q,by simp,bR _ _⟩
 case round =>
  obtain⟨e,g,rfl,rfl,E,v,y,i⟩:=hrel;obtain⟨h,l,j,p⟩:=oD i y v (n.mono i);have F:=qs8 d e;by_cases z:g=0
  . subst z
    have k:Hi (beg d f=e):=h_ (by unfold beg;rw[l.u,List.drop_zero,qm5]);by_cases s:e=0
    . subst s
      go_wp2_with fail;go_ret;exact⟨qrs (by rw[k.u]),h⟩
    . have t:(0:Int)<e:=by omega
      go_wp2_with fail;go_ret;exact⟨qrs (by rw[k.u]),h⟩
  . obtain⟨b,rfl⟩:∃b,e=b+1:=⟨e - 1,by have:=j.u;omega⟩
    have s:=qcx (by omega) j (o b (by omega)) l;have k:=h_ s;have D:=kbQ (d b);have I:g<=1000:=(by have:=j.u;omega);have t:(0:Int)<((b+1:Nat):Int):=(by omega);have J:(0:Int)<g:=(by omega);have K:wrap64 (((b+1:Nat):Int) - 1)=(b:Int):=(by rw[q6w (by omega) (by omega)];omega);have G:(b:Int)<m:=(by omega);obtain⟨A,L,rfl,-,B,c1,c2,c3,c4⟩:=p b (by omega);go_wp2_with fail;refine cQ (q1i (d b) _) fun M i=>?_;replace h:=mT h i;go_wp2_with fail;go_roundw
    case rel=>exact⟨b,g - 1+arn (d b),by go_num,rfl,by omega,k.1,k.2,h⟩
    case measure=>simp[intOf]
theorem kij (f:Nat->Nx)(n:Nat):∀c,c∈pst f n->c.d<=n:=by
 induction n with
 | zero=>intro c b;cases b
 | succ n i =>
  intro c b;rcases Z7.1 b with rfl | b
  . have:∀e:List Ph,(∀a,a∈e->a.d<=n)->mx e<=n:=by
     intro e
     induction e with
     | nil=>intro _;exact nZ _
     | cons k l j=>intro h;have:=h k Y8;have:=j fun a g=>h a (Zi _ g);simp only[mx];omega
    have:=this ((pst f n).take (arn (f n))).reverse fun a g=>i a (Z6 (Ol.1 g));show mx _+1<=n+1;omega
  . have:=i c (O5 b);omega
theorem qsi (a:Nat->Nx)(c:1<=n):top a n∈pst a n:=by
 obtain⟨b,rfl⟩:∃b,n=b+1:=⟨n - 1,by omega⟩;exact Y8
theorem kh7 (a:Nat->Nx)(b:1<=n):(top a n).d<=n:=kij a n _ (qsi a b)
theorem qc0 (e:Nat->Nx)(n i:Nat):mx ((pst e n).take i)<=n:=by
 have:∀b:List Ph,(∀a,a∈b->a.d<=n)->mx b<=n:=by
  intro b
  induction b with
  | nil=>intro _;exact nZ _
  | cons h j g=>intro f;have:=f h Y8;have:=g fun a c=>f a (Zi _ c);simp only[mx];omega
 exact this _ fun a c=>kij e n a (Z6 c)
theorem qrg (a:Nat->Nx)(n i:Nat)(b:i<(stk a n).length):(pst a n)[i]'(by rw[qrh];exact b)=top a (stk a n)[i]:=by
 have:=qri a n;have c:(pst a n)[i]? = ((stk a n).map (top a))[i]?:=by rw[<- this]
 rw[Zj,Yg b,Yg (by rw[qrh];exact b)]at c;simpa using c
theorem q6b (a:Nat->Nx)(n i:Nat)(b:i<(stk a n).length):mx ((pst a n).take (i+1))=max (mx ((pst a n).take i)) (top a (stk a n)[i]).d:=by
 rw[Ys (by rw[qrh];exact b),qg5,qrg a n i b];simp[mx]
theorem qnc (a:Nat->Nx)(n i:Nat)(b:i<(stk a n).length):beg a (stk a n)[i]=((stk a n).drop (i+1)).headD 0:=by
 unfold beg;rw[(qn9 a n i b).1,List.tail_drop]
theorem qah (l:List Nat)(i:Nat)(a:i<l.length):(l.drop i).headD 0=l[i]:=by
 rw[Vn a];rfl
theorem q87 (a:To)(m c:Nat)(b:Nat->Nx)(w:m<=1000)(F:Nat):∀(h:Nat) (k:Tw),h<=F->kch k a m b->1<=h->h<=m->kbN b h ->
 Gv 228 #[.slice a m c,J6 h] k (J6 (top b h).d):=by
 induction F with
 | zero=>intro h k d _ C;omega
 | succ F g =>
  intro h k K f C J e;obtain⟨d,rfl⟩:∃d,h=d+1:=⟨h - 1,by omega⟩;obtain⟨z,q,B⟩:=oC f e g;have L:=e d (by omega);have M:=kbQ (b d);have A:Hi ((top b (d+1)).d=mx ((pst b d).take (arn (b d)))+1):=h_ (by rw[qml];show mx _+1=_;rw[qbz]);have S:wrap64 (((d+1:Nat):Int) - 1)=(d:Int):=by rw[q6w (by omega) (by omega)];omega
  have Q:(d:Int)<m:=by omega
  clear f e g;go_enter func228,ntmps228;go_wp2_with fail;go_loopw [5,6,7,8] (fun i g f _ wr=>∃e:Nat,e<=arn (b d)/\i=J6 (mx ((pst b d).take e))/\g=J6 (((stk b d).drop e).headD 0)/\f=J6 e/\Bw k wr) (fun _ _ f _ _=>arn (b d) - (intOf f).toNat)
  case atStart=>exact⟨0,nZ _,rfl,by rw[List.drop_zero,qm5],rfl,bR _ _⟩
  case round =>
   obtain⟨e,O,rfl,rfl,rfl,f⟩:=hrel;obtain⟨g,i⟩:=oB f (z.mono f);clear f;obtain⟨I,T,rfl,-,j,c1,c2,c3,c4⟩:=i d (by omega);go_wp2_with fail;refine cQ (q1i (b d) _) fun U f=>?_;replace g:=mT g f;replace i:=h_ (i.mono f);clear f j c1 c2 c3 c4;by_cases P:e<arn (b d)
   . have E:(e:Int)<(arn (b d):Int):=by omega
     have l:e<(stk b d).length:=(by omega);rw[qah _ _ l];obtain⟨j,n⟩:=Nq ((stk b d)[e]);have t:=qn9 b d e l;have p:Hi (mx ((pst b d).take (e+1))=max (mx ((pst b d).take e)) (top b j).d):=h_ (by rw[q6b b d e l,n]);have s:Hi (beg b j=((stk b d).drop (e+1)).headD 0):=h_ (by rw[<- n];exact qnc b d e l);rw[n]at t⊢;obtain⟨-,o,R⟩:=t;have G:=kh7 b o;have x:=qc0 b d e;clear n;go_wp2_with fail;refine cQ (B j _ (by omega) i o (by omega) (q.le (by omega))) fun V f=>?_;replace g:=mT g f;replace i:=h_ (i.mono f);obtain⟨n,v⟩:=Nq ((top b j).d);obtain⟨r,y⟩:=Nq (mx ((pst b d).take e));rw[v,y]at p;rw[v]at G⊢;rw[y]at x⊢;by_cases N:r<n
     . have D:(r:Int)<n:=by omega
       go_wp2_with fail;refine cQ (q8d _ m c b j _ w i o (by omega) (q.le (by omega))) fun H f=>?_;replace g:=mT g f;go_wp2_with fail;go_roundw
       case rel=>(repeat apply Exists.intro);exact⟨⟨e+1,by omega,by rw[p.u,Nat.max_eq_right (by omega)],by rw[s.u],by go_num,g⟩,rfl⟩
       case measure=>simp[intOf];omega
     . have D:¬ (r:Int)<n:=by omega
       go_wp2_with fail;refine cQ (q8d _ m c b j _ w i o (by omega) (q.le (by omega))) fun H f=>?_;replace g:=mT g f;go_wp2_with fail;go_roundw
       case rel=>(repeat apply Exists.intro);exact⟨⟨e+1,by omega,by rw[p.u,Nat.max_eq_left (by omega)],by rw[s.u],by go_num,g⟩,rfl⟩
       case measure=>simp[intOf];omega
   . obtain rfl:e=arn (b d):=by omega
     have x:=qc0 b d (arn (b d));have E:¬ ((arn (b d):Nat):Int)<(arn (b d):Int):=(by omega);go_wp2_with fail;go_ret;exact⟨qrs (by rw[A.u];omega),g⟩
def stB (e:Nat->Nx)(m:Nat):Bool:=((List.range m).all fun k=>decide (arn (e k)<=(stk e k).length))&&decide ((stk e m).length=1)
theorem qs6 (a:Nat->Nx)(m:Nat):stB a m=true ↔ kbN a m/\(stk a m).length=1:=by
 unfold stB kbN;simp[List.all_eq_true]
theorem khf {a:Nat->Nx}{m:Nat}(c:k<m)(d:(stk a k).length<arn (a k)):stB a m=false:=by
 cases b:stB a m
 . rfl
 . have:=((qs6 a m).1 b).1 k c;omega
theorem qs5 {a:Nat->Nx}{m:Nat}(c:kbN a m):stB a m=decide ((stk a m).length=1):=by
 rw[Zh,qs6,Yk];exact⟨fun b=>b.2,fun b=>⟨c,b⟩⟩
theorem q8c (a:To)(m c:Nat)(d:Nat->Nx)(w:Tw)(F:m<=1000)(v:kch w a m d) :
 Gv 227 #[.slice a m c] w (.bool (stB d m)):=by
 have r:=h_ v;go_enter func227,ntmps227;go_wp2_with fail;go_loopw [3,4,5] (fun f e _ wr=>∃b:Nat,b<=m/\f=J6 (stk d b).length/\e=J6 b/\kbN d b/\Bw w wr) (fun _ e _ _=>m - (intOf e).toNat)
 case atStart=>exact⟨0,nZ _,rfl,rfl,fun b o=>absurd o (nL _),bR _ _⟩
 case round =>
  obtain⟨b,o,rfl,rfl,B,i⟩:=hrel;obtain⟨g,l,s⟩:=oC i B (r.mono i);have A:=qs8 d b;by_cases p:b<m
  . have E:(b:Int)<m:=by omega
    obtain⟨C,G,rfl,-,D,c1,c2,c3,c4⟩:=s b p;go_wp2_with fail;refine cQ (q1i (d b) _) fun H i=>?_;replace g:=mT g i;have x:=kbQ (d b);have n:Hi ((stk d (b+1)).length=(stk d b).length - arn (d b)+1):=h_ (by simp[stk]);obtain⟨k,h⟩:=Nq (arn (d b));obtain⟨j,e⟩:=Nq ((stk d b).length);by_cases y:j<k
    . have z:(j:Int)<k:=by omega
      have f:Hi (stB d m=false):=h_ (khf p (by rw[h,e];exact y));rw[h,e];go_wp2_with fail;go_ret;exact⟨qln f.symm,g⟩
    . have z:¬ (j:Int)<k:=by omega
      have f:Hi (kbN d (b+1)):=h_ fun q t=>by
       by_cases t:q=b
       . subst t;rw[h,e];omega
       . exact l q (by omega)
      rw[h,e]at n⊢;rw[h]at x;rw[e]at A;go_wp2_with fail;go_roundw
      case rel=>exact⟨b+1,by omega,by rw[n.u];go_num,by go_num,f,g⟩
      case measure=>simp[intOf];omega
  . obtain rfl:b=m:=by omega
    have f:=h_ (qs5 l);obtain⟨j,e⟩:=Nq ((stk d b).length);rw[e]at f⊢;go_wp2_with fail;go_ret;exact⟨qln (by rw[f.u,Zh];simp;omega),g⟩
theorem qhu {b:Nat->Nx}{m:Nat}(c:∀a,a<m->(b a).v.s.size<=1000):∀a,a<=m->kbi b a<=1001*a:=by
 intro a
 induction a with
 | zero=>intro _;exact nR _
 | succ a d=>intro e;have:=d (by omega);have:=c a (by omega);simp only[kbi];omega
theorem q1l (a:To)(m c:Nat)(d:Nat->Nx)(w:Tw)(z:m<=1000)(o:kch w a m d)(i:∀b,b<m->(d b).v.s.size<=1000) :
 Gv 229 #[.slice a m c] w (J6 (kbi d m)):=by
 obtain⟨j,l,k⟩:=oC o (qhu i) i;go_enter func229,ntmps229;go_wp2_with fail;go_loopw [3,4] (fun f e wr=>∃b:Nat,b<=m/\f=J6 (kbi d b)/\e=J6 b/\Bw w wr) (fun _ e _=>m - (intOf e).toNat)
 case atStart=>exact⟨0,nZ _,rfl,rfl,bR _ _⟩
 case round =>
  obtain⟨b,p,rfl,rfl,g⟩:=hrel;obtain⟨e,n⟩:=oB g (j.mono g);have q:=l b p;by_cases h:b<m
  . have y:(b:Int)<m:=by omega
    obtain⟨t,B,rfl,-,x,c1,c2,c3,c4⟩:=n b h;have A:=k b h;have f:Hi (kbi d (b+1)=kbi d b+1+(d b).v.s.size):=h_ rfl;obtain⟨C,r⟩:=Nq (kbi d b);rw[r]at f q⊢;go_wp2_with fail;go_roundw
    case rel=>exact⟨b+1,by omega,by rw[f.u];go_num,by go_num,e⟩
    case measure=>simp[intOf];omega
  . obtain rfl:b=m:=by omega
    go_wp2_with fail;go_ret;exact⟨rfl,e⟩
def kal (e:Nat->Nx)(n:Nat):List Nat:=((stk e n).take (arn (e n))).reverse
theorem qa2 {a:Nat->Nx}(b:arn (a n)<=(stk a n).length):(kal a n).length=arn (a n):=by
 unfold kal;rw[Zf,Zb];omega
theorem qa4 {b:Nat->Nx}(a:p∈kal b n):1<=p/\p<=n:=by
 unfold kal at a;have a:=Z6 (Ol.1 a);obtain⟨d,c,rfl⟩:=Yx.1 a;exact(qn9 b n d c).2
theorem qa3 (a:Nat->Nx)(n:Nat):(kal a n).map (top a)=((pst a n).take (arn (a n))).reverse:=by
 unfold kal;rw[List.map_reverse,List.map_take,<- qri]
theorem qbi (a:To)(m c:Nat)(b:Nat->Nx)(n:Nat)(w:Tw)(P:m<=1000)(f:kch w a m b)(h2:n+1<=m)(e:kbN b (n+1)) :
 Calls prog 150 #[.slice a m c,J6 ((n+1:Nat):Int)] w fun d g=>∃j r,d=.returned (.slice j (arn (b n)) r)/\kbx g j (arn (b n)) (fun d=>(((kal b n).getD d 0:Nat):Int))/\Bw w g:=by
 obtain⟨C,F⟩:=oB f e;have aa:=e n (by omega);have ac:=kbQ (b n);have ah:wrap64 (((n+1:Nat):Int) - 1)=(n:Int):=by rw[q6w (by omega) (by omega)];omega
 have af:(n:Int)<m:=by omega
 have g:Hi (Bw w (w.alloc (.cells #[] 3))):=h_ ((bR _ _).alloc (nR _) _);clear f e;go_enter func150,ntmps150;go_wp2_with fail;go_loopw [5,6,7,8,9] (fun h f e _ _ wr=>∃(d:Nat) (j:To) (r:Nat),d<=arn (b n)/\h=.slice j d r/\kbx wr j d (fun k=>(((((stk b n).take d).reverse).getD k 0:Nat):Int))/\f=J6 (((stk b n).drop d).headD 0)/\e=J6 d/\Bw w wr) (fun _ _ e _ _ _=>arn (b n) - (intOf e).toNat)
 case atStart=>exact⟨0,_,_,nZ _,rfl,fun k e=>absurd e (nL _),by rw[List.drop_zero,qm5],rfl,g⟩
 case round =>
  obtain⟨d,j,r,hk,rfl,e,rfl,rfl,f⟩:=hrel;obtain⟨o,p,q⟩:=oC f e (C.mono f);clear f e g;obtain⟨Z,ai,rfl,-,e,g,h,i,l⟩:=q n (by omega);go_wp2_with fail;refine cQ (q1i (b n) _) fun X f=>?_;replace o:=mT o f;replace q:=h_ (q.mono f);replace p:=h_ (p.mono f);clear f e g h i l;by_cases ae:d<arn (b n)
  . have O:(d:Int)<(arn (b n):Int):=by omega
    have s:d<(stk b n).length:=(by omega);rw[qah _ _ s];obtain⟨i,e⟩:=Nq ((stk b n)[d]);have A:=qn9 b n d s;have D:Hi (beg b i=((stk b n).drop (d+1)).headD 0):=h_ (by rw[<- e];exact qnc b n d s);have x:Hi (((stk b n).take (d+1)).reverse=i :: ((stk b n).take d).reverse):=h_ (by rw[Ys s,List.reverse_append,e];rfl);have M:(((stk b n).take d).reverse).length=d:=(by rw[Zf,Zb];omega);obtain⟨l,g⟩:=Nq (((stk b n).take d).reverse);rw[g]at x p M;rw[e]at A⊢;obtain⟨-,R,ag⟩:=A;clear e g;obtain⟨h,rfl⟩:∃h,h=X:=⟨_,rfl⟩;have t:=h_ (qkz h 3 (J6 (i:Int)));have g:Hi (Bw h (h.alloc (.cells #[J6 (i:Int)] 3))):=h_ ((bR _ _).alloc (nR _) _);go_wp2_with fail;go_loopw [8,9] (fun y k v=>∃e:Nat,e<=d/\k=J6 e/\v.ownsRow h.heap.size 3 1 y (e+1) (ui (i :: l.take e))/\Bw h v) (fun _ k _=>d - (intOf k).toNat)
    case atStart=>exact⟨0,nZ _,rfl,t,g⟩
    case round =>
     clear t g;obtain⟨e,hq,rfl,I,B⟩:=hrel;obtain⟨v,g,E⟩:=oC I B (p.mono B);by_cases N:e<d
     . have ad:(e:Int)<d:=by omega
       obtain⟨b1,o1,rfl,-,J⟩:=E e N;have t:Hi (l.take (e+1)=l.take e++[l.getD e 0]):=h_ (by rw[Ys (by omega),Yo,Yg (by omega)];rfl);obtain⟨z,y⟩:=Nq (l.getD e 0);simp only[y]at J;rw[y]at t;obtain⟨V,L,S,T,U⟩:=info_parts kbf;go_wp2_with (at_builtin;refine wpList_append_own _ rfl _ _ 89 rfl h.heap.size 3 V _ 1 8 underlying89 L S T U rfl (by omega) _ _ _ rfl (v.alloc _) ⟨wr.heap.size,0,none⟩ 1 1 [J6 (z:Int)] rfl rfl (qim wr 3 _) (by simp[Value.oneCell']) (by unfold maxLen;omega) (by omega) (by have:=g.size;simp;omega) ?_);intro W Y Q K _;have H:=(g.alloc g.size (.cells #[J6 (z:Int)] 3)).grown K (by have:=g.size;simp;omega) (fun k b=>qc8 v b);have G:Hi (Y.ownsRow h.heap.size 3 1 W (e+1+1) (ui (i :: l.take (e+1)))):=h_ (by rw[t.u];simpa [ui] using Q);have k:=h_ H;refine rQ ?_;exact⟨e+1,by omega,by go_num,G,k⟩
     . obtain rfl:e=d:=by omega
       have y:=v.u;rw[Yy (by omega)]at y;obtain⟨H,c1,rfl,z⟩:=q5f y;rw[<- x.u]at z;obtain⟨t,k,G⟩:=oC z (o.trans (g.mono o.size)) (q.mono g);go_wp2_with fail;refine cQ (q8d _ m c b i _ P G R (by omega) (F.le (by omega))) fun J f=>?_;replace k:=mT k f;replace t:=h_ (t.mono f);go_wp2_with fail;go_roundw
       case rel=>(repeat apply Exists.intro);exact⟨⟨e+1,_,_,by omega,rfl,t,by rw[D.u],by go_num,k⟩,rfl⟩
       case measure=>simp[intOf];omega
  . obtain rfl:d=arn (b n):=by omega
    have O:¬ ((arn (b n):Nat):Int)<(arn (b n):Int):=(by omega);go_wp2_with fail;go_ret;exact⟨_,_,rfl,p,o⟩
theorem qps (l:List Tb)(x:Tb):jt (l++[x])=jt l++(⟨#[44,32]⟩++x):=by
 induction l with
 | nil=>show ⟨#[44,32]⟩++x++ByteArray.empty=ByteArray.empty++(⟨#[44,32]⟩++x);rw[ByteArray.append_empty,ByteArray.empty_append]
 | cons c b a=>simp only[Zw,jt,a,ByteArray.append_assoc]
theorem qpp (l:List Tb)(x:Tb)(a:l≠[]):jn (l++[x])=jn l++⟨#[44,32]⟩++x:=by
 cases l with
 | nil=>exact absurd rfl a
 | cons c b=>simp only[Zw,jn,qps,ByteArray.append_assoc]
structure kdZ (a:To)(m:Nat)(e:Nat->Nx)(n:Nat)(w:Tw):Prop where
 nods:kch w a m e
 st:kbN e n
 ok:kcf e n
 fit:∀k,k<n->Fit (e k)
theorem kdZ.mono {m:Nat}{c:Nat->Nx}{w':Tw}(b:kdZ a m c n w)(d:Bw w w'):kdZ a m c n w':=⟨b.nods.mono d,b.st,b.ok,b.fit⟩
theorem kdZ.le {m:Nat}{c:Nat->Nx}(b:kdZ a m c n w)(d:k<=n):kdZ a m c k w:=⟨b.nods,b.st.le d,b.ok.le d,fun e f=>b.fit e (by omega)⟩
theorem kdZ.tot {m:Nat}{b:Nat->Nx}(c:kdZ a m b n w):tot (pst b n)<=1100*n:=(qsk b n c.st c.ok (fun e d=>(c.fit e d).2.2.2)).2
theorem kdZ.top {m:Nat}{b:Nat->Nx}(c:kdZ a m b n w)(d:1<=n):(top b n).t.size<=1100*n:=Y5 (qsj (qsi b d)) c.tot
def kdJ (a:To)(m c:Nat)(e:Nat->Nx)(en:Nat):Prop:=∀w:Tw,kdZ a m e en w ->
 Gv 190 #[.slice a m c,J6 en] w (.string (top e en).t)
theorem qfv (a:To)(m c:Nat)(b:Nat->Nx)(n:Nat)(l:Int)(w:Tw)(q:m<=1000)(r:n+1<=m)(j:kdJ a m c b (n+1))(h:kdZ a m b (n+1) w) :
 Gv 232 #[.slice a m c,J6 ((n+1:Nat):Int),J6 l] w (.string (wrap l (top b (n+1)))):=by
 have v:wrap64 (((n+1:Nat):Int) - 1)=(n:Int):=by rw[q6w (by omega) (by omega)];omega
 have s:(n:Int)<m:=by omega
 have t:=h.top (by omega);have d:=h_ h;have g:Hi (wrap l (top b (n+1))=if lvl (b n).op<l then ⟨#[40]⟩++(top b (n+1)).t++⟨#[41]⟩ else (top b (n+1)).t):=h_ rfl;go_enter func232,ntmps232;go_wp2_with fail;refine cQ (j _ d) fun z i=>?_;have f:=h_ i;replace d:=h_ (d.mono i);obtain⟨p,x,rfl,-,B,C,D,E,F⟩:=d.nods n (by omega);generalize (top b (n+1)).t=y at *;go_wp2_with fail;refine cQ (q89 _ _) fun A e=>?_;replace e:=e.symm;subst e;generalize lvl (b n).op=o at *;by_cases k:o<l
 . go_wp2_with fail
   go_ret;exact⟨qrt (by rw[g.u,Yr k]),f⟩
 . go_wp2_with fail
   go_ret;exact⟨qrt (by rw[g.u,Yl (by omega)]),f⟩
