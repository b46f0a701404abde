import Derived.Test.YtfmammdgehbjhaaGreatDoorW04
set_option maxRecDepth 100000
set_option maxHeartbeats 64000000
namespace Go.Proofs.YtfmammdgehbjhaaGreatDoor
open Go Go.RowKit
theorem q6x (v:Value)(l:List Nat)(w:World)(hv:DigS w v l)(hd:Dig l)(hl:l.length<=1000) :
 Calls Tryz.prog 84 #[v] w fun e w'=>∃u,e=.returned u/\DigS w u (digs (dval l))/\w'=w:=by
 obtain⟨a,cap,rfl,hc,hn,hI⟩:=hv
 go_enter Tryz.func84,Tryz.ntmps84
 go_wp2
 go_loopw [3] (fun i wr=>∃k:Nat,k<=l.length/\i=Ya k/\(∀j,k<=j->j<l.length->l.getD j 0=0)/\wr=w) (fun i _=>(intOf i).toNat)
 case atStart=>exact⟨l.length,nR _,rfl,fun j h h'=>absurd h' (by omega),rfl⟩
 case round =>
  obtain⟨k,hk,rfl,hz,rfl⟩:=hrel;have HZ:=h_ hz;clear hz;have fin:(k=0∨l.getD (k - 1) 0≠0)->DigS wr (.slice a k cap) (digs (dval l)):=fun h=>by
   have e:=qjj hd hk HZ.u h;have el:(l.take k).length=k:=by simp;omega
   refine⟨a,cap,by rw[<- e,el],by rw[<- e,el];omega,hn,?_⟩;rw[<- e,el];intro j hj;obtain⟨b,off,e1,h1,h2⟩:=hI j (by omega);exact⟨b,off,e1,h1,by rw[h2];simp[List.getD,hj]⟩
  have HF:=h_ fin;clear fin;cases k with
  | zero =>
   go_wp2;go_ret;exact⟨_,rfl,HF.u (.inl trivial),rfl⟩
  | succ k =>
   obtain⟨b,off,rfl,hb,hcell⟩:=hI k (by omega);obtain⟨d,hD⟩:=Nq (l.getD k 0);dsimp only at hcell;rw[hD]at hcell;by_cases h0:d=0
   . go_wp2
     go_roundw
     case rel=>exact⟨k,by omega,rfl,fun j hj hj'=>by
      by_cases e:j=k
      . subst e;rw[hD];exact h0
      . exact HZ.u j (by omega) hj',trivial⟩
     case measure=>simp[intOf]
   . go_wp2
     go_ret;exact⟨_,rfl,HF.u (.inr (by rw[Nat.add_sub_cancel,hD];exact h0)),rfl⟩
theorem q4u (v:Value)(l:List Nat)(i:Nat)(w:World)(hv:DigS w v l)(d:Nat)(hd:l.getD i 0=d) :
 Calls Tryz.prog 193 #[v,Ya i] w fun e w'=>e=.returned (Ya d)/\w'=w:=by
 obtain⟨a,cap,rfl,hc,hn,hI⟩:=hv
 by_cases h:i<l.length
 . obtain⟨b,off,rfl,hb,hcell⟩:=hI i h
   dsimp only at hcell;rw[hd]at hcell;go_enter Tryz.func193,Tryz.ntmps193;go_wp2;go_ret;exact⟨rfl,rfl⟩
 . obtain rfl:d=0:=by rw[<- hd];simp[List.getD,List.getElem?_eq_none (by omega:l.length<=i)]
   go_enter Tryz.func193,Tryz.ntmps193;go_wp2;go_ret;exact⟨rfl,rfl⟩
theorem q2d (v u:Value)(l m:List Nat)(w:World)(hv:DigS w v l)(hu:DigS w u m)(hl:Dig l)(hm:Dig m)(bl:l.length<=1000)(bm:m.length<=1000)(V:Bool)(hV:V=true ↔ dval l<dval m) :
 Calls Tryz.prog 178 #[v,u] w fun e w'=>e=.returned (.bool V)/\∃n,w'=w.drewN n:=by
 have HV:=h_ hV;clear hV
 have L1:(digs (dval l)).length<=1000:=Yt (q1b (qg6 hl)) bl
 have L2:(digs (dval m)).length<=1000:=Yt (q1b (qg6 hm)) bm
 have HU:=h_ hu;clear hu
 go_enter Tryz.func178,Tryz.ntmps178
 go_wp2_with fail
 refine(q6x v l w hv hl bl).mono ?_
 rintro e w1 ⟨v1,rfl,hv1,rfl⟩
 have HV1:=h_ hv1;clear hv1 hv
 go_wp2_with fail
 refine(q6x u m w1 HU.u hm bm).mono ?_
 rintro e w2 ⟨u1,rfl,hu1,rfl⟩
 obtain⟨a,ca,rfl,-,-,hA⟩:=HV1.u
 obtain⟨b,cb,rfl,-,-,hB⟩:=hu1
 clear HV1 HU
 generalize dval l=x at *
 generalize dval m=y at *
 by_cases hlen:(digs x).length=(digs y).length
 . rw[hlen]at hA⊢
   go_wp2;go_loopw [5] (fun i wr=>∃k n:Nat,k<=(digs y).length/\i=Ya ((k:Int) - 1)/\x / 10 ^ k=y / 10 ^ k/\wr=w2.drewN n) (fun i _=>(intOf i+1).toNat)
   case atStart =>
    refine⟨(digs y).length,0,nR _,rfl,?_,rfl⟩;rw[Nat.div_eq_of_lt (by rw[<- hlen];exact qha x),Nat.div_eq_of_lt (qha y)]
   case round =>
    obtain⟨k,n,hk,rfl,hq,rfl⟩:=hrel;cases k with
    | zero =>
     have hf:V=false:=by
      cases V with
      | false=>rfl
      | true=>have:=HV.u.1 rfl;simp at hq;omega
     subst hf;go_wp2;go_ret;exact⟨rfl,_,rfl⟩
    | succ k =>
     rw[show((k+1:Nat):Int) - 1=(k:Int) by omega];obtain⟨b1,o1,rfl,-,c1⟩:=hA k (by omega);obtain⟨b2,o2,rfl,-,c2⟩:=hB k (by omega);dsimp only at c1 c2;rw[qg3]at c1 c2;have s1:=qby x k;have s2:=qby y k;obtain⟨d,hd⟩:=Nq (x / 10 ^ k % 10);obtain⟨f,hf⟩:=Nq (y / 10 ^ k % 10);rw[hd]at c1 s1;rw[hf]at c2 s2;have HQ:=h_ hq;have HS:=h_ (And.intro s1 s2);clear hq s1 s2 hd hf;by_cases hdf:d=f
     . subst hdf
       go_wp2
       go_quiet (fail)
       go_wp2;go_roundw
       case rel=>exact⟨k,_,by omega,rfl,by have:=HQ.u;have:=HS.u;omega,rfl⟩
       case measure=>simp[intOf]
     . have hc:V=decide (d<f):=by
        rw[Zj,HV.u,Yj];have q:=HQ.u;have s:=HS.u;refine⟨fun h=>?_,fun h=>q8v (p:=10 ^ k) (by omega)⟩;rcases Nat.lt_or_ge d f with h' | h'
        . omega
        . exact absurd h (by have:=q8v (m:=y) (n:=x) (p:=10 ^ k) (by omega);omega)
       have HC:=h_ hc;clear hc;go_wp2
       go_quiet (fail)
       go_wp2
       go_quiet (fail)
       go_wp2;go_ret;exact⟨qdx HC.u.symm,_,by rw[q4c,q4c]⟩
 . have hc:V=decide ((digs x).length<(digs y).length):=by
    rw[Zj,HV.u,Yj];refine⟨fun h=>?_,fun h=>q4b (by omega)⟩;rcases Nat.lt_or_ge (digs x).length (digs y).length with h' | h'
    . omega
    . exact absurd h (by have:=q4b (m:=y) (n:=x) (by omega);omega)
   have HC:=h_ hc;clear hc;go_wp2;go_ret;exact⟨qdx HC.u.symm,0,rfl⟩
theorem Dig.getD {l:List Nat}(h:Dig l)(i:Nat):l.getD i 0<10:=by rw[dig_at h];exact Nat.mod_lt _ (by decide)
theorem qhl {l:List Nat}(h:Dig l){n:Nat}(hn:l.length<=n):dval l % 10 ^ n=dval l:=Nat.mod_eq_of_lt (Y3 (qg6 h) (Vz (by decide) hn))
theorem q37 (v u:Value)(l m:List Nat)(w:World)(hv:DigS w v l)(hu:DigS w u m)(hl:Dig l)(hm:Dig m)(bl:l.length<=500)(bm:m.length<=500) :
 Calls Tryz.prog 177 #[v,u] w fun e w'=>∃r,e=.returned r/\DigS w' r (digs (dval l+dval m))/\Below w.heap.size w w':=by
 have HB0:Hi (Below w.heap.size w (w.alloc (.cells #[] 3))):=(bR _ _).alloc (nR _) _
 obtain⟨a,ca,rfl,-,-,hA⟩:=id hv
 obtain⟨b,cb,rfl,-,-,hB⟩:=id hu
 have HV:=h_ hv;have HU:=h_ hu;clear hv hu hA hB
 obtain⟨n,hn⟩:∃n,n=if m.length > l.length then m.length else l.length:=⟨_,rfl⟩
 have hn1:l.length<=n:=by rw[hn];split <;> omega
 have hn2:m.length<=n:=by rw[hn];split <;> omega
 have bn:n<=500:=by rw[hn];split <;> omega
 have HN:=h_ (And.intro hn1 hn2)
 by_cases hg:m.length > l.length
 . rw[Yn hg]at hn
   rw[<- hn]at HU hg⊢;clear hn hn1 hn2;go_enter Tryz.func177,Tryz.ntmps177;go_wp2_with fail;go_loopw [6,7,8] (fun out c i wr=>∃(k cc:Nat) (o:List Nat),k<=n+1/\i=Ya k/\c=Ya cc/\cc<=1/\o.length=k/\Dig o/\dval o+cc*10 ^ k=dval l % 10 ^ k+dval m % 10 ^ k/\wr.ownsRow w.heap.size 3 1 out k (ui o)/\Below w.heap.size w wr) (fun _ _ i _=>n+1 - (intOf i).toNat)
   case atStart=>exact⟨0,0,[],by omega,rfl,rfl,by omega,rfl,(fun d hd=>by cases hd),by simp[dval,Nat.mod_one],q9y w 3,HB0.u⟩
   case round =>
    clear HB0;obtain⟨k,cc,o,hk,rfl,rfl,hcc,hol,hod,hval,hown,hb⟩:=hrel;have HO:=h_ hown;have HB:=h_ hb;have HD:=h_ (And.intro hod hval);have HOL:=h_ hol;clear hown hod hval hol;by_cases hlt:k<=n
    . obtain⟨x,hx⟩:=Nq (l.getD k 0)
      obtain⟨y,hy⟩:=Nq (m.getD k 0);have hx10:x<10:=(by rw[<- hx];exact hl.getD k);have hy10:y<10:=(by rw[<- hy];exact hm.getD k);have HX:=h_ hx;have HY:=h_ hy;clear hx hy;have V2:=h_ (HV.u.mono hb);have U2:=h_ (HU.u.mono hb);clear hb;go_wp2_with fail;refine(q4u _ l k wr V2.u x HX.u).mono ?_;rintro e w' ⟨rfl,rfl⟩;go_wp2_with fail;refine(q4u _ m k w' U2.u y HY.u).mono ?_;rintro e w'' ⟨rfl,rfl⟩;have hs10:(x+y+cc) / 10<=1:=(by omega);obtain⟨i0,hi,hz0,hz1,hz2⟩:=info_parts infoI;go_wp2_with (at_builtin;refine wpList_append_own _ rfl _ _ 50 rfl w.heap.size 3 i0 _ 1 8 Tryz.underlying50 hi hz0 hz1 hz2 rfl (by omega) u6 _ _ rfl (HO.u.alloc _) ⟨w''.heap.size,0,none⟩ 1 1 [Ya (((x:Int)+y+cc) % 10)] rfl rfl (qbm w'' 3 _) (by simp[Value.oneCell']) (by unfold maxLen;omega) (by omega) (by have:=HB.u.size;simp;omega) ?_);intro v' w' hown' hgrow' _;have hB':=(HB.u.alloc (by have:=HB.u.size;omega) (.cells #[Ya (((x:Int)+y+cc) % 10)] 3)).grown hgrow' (by have:=HB.u.size;simp;omega) (fun q' e=>q7l HO.u e);have HO3:Hi (w'.ownsRow w.heap.size 3 1 v' (k+1) (ui (o++[(x+y+cc) % 10]))):=by
       rw[Hi];simpa [ui] using hown'
      have HB3:=h_ hB';clear hown' hgrow' hB' hi hz0 hz1 hz2;go_wp2_with fail;go_roundw
      case rel =>
       refine⟨k+1,(x+y+cc) / 10,o++[(x+y+cc) % 10],by omega,by go_num,by go_num,hs10,?_,?_,?_,HO3.u,HB3.u⟩
       . have:=HOL.u;simp[this]
       . exact HD.u.1.snoc (by omega)
       . rw[q90,HOL.u,qcw,qcw,<- dig_at hl,<- dig_at hm,HX.u,HY.u]
         exact qb3 HD.u.2 rfl
      case measure=>simp[intOf];omega
    . obtain rfl:k=n+1:=by omega
      have h1:=HD.u.2;rw[qhl hl (by have:=HN.u;omega),qhl hm (by have:=HN.u;omega)]at h1;have hc0:cc=0:=by
       have h2:=Y3 (qg6 hl) (Vz (n:=10) (by decide) HN.u.1);have h3:=Y3 (qg6 hm) (Vz (n:=10) (by decide) HN.u.2);rw[Nat.pow_succ]at h1;rcases (by omega:cc=0∨cc=1) with h | h
       . exact h
       . subst h;omega
      subst hc0;have hval:dval o=dval l+dval m:=(by omega);have hdo:=HD.u.1;have HOd:DigS wr u6 o:=(by have:=HO.u;rw[<- HOL.u]at this;exact q2q this);have hol:o.length<=1000:=(by have:=HOL.u;omega);clear HD HO HOL h1;go_wp2_with fail;refine(q6x u6 o wr HOd hdo hol).mono ?_;rintro e w' ⟨r,rfl,hr,rfl⟩;rw[hval]at hr;have HR:=h_ hr;clear hr;go_wp2;go_ret;exact⟨_,rfl,HR.u,HB.u⟩
 . rw[Yi hg]at hn
   rw[<- hn]at HV hg⊢;clear hn hn1 hn2;go_enter Tryz.func177,Tryz.ntmps177;go_wp2_with fail;go_loopw [6,7,8] (fun out c i wr=>∃(k cc:Nat) (o:List Nat),k<=n+1/\i=Ya k/\c=Ya cc/\cc<=1/\o.length=k/\Dig o/\dval o+cc*10 ^ k=dval l % 10 ^ k+dval m % 10 ^ k/\wr.ownsRow w.heap.size 3 1 out k (ui o)/\Below w.heap.size w wr) (fun _ _ i _=>n+1 - (intOf i).toNat)
   case atStart=>exact⟨0,0,[],by omega,rfl,rfl,by omega,rfl,(fun d hd=>by cases hd),by simp[dval,Nat.mod_one],q9y w 3,HB0.u⟩
   case round =>
    clear HB0;obtain⟨k,cc,o,hk,rfl,rfl,hcc,hol,hod,hval,hown,hb⟩:=hrel;have HO:=h_ hown;have HB:=h_ hb;have HD:=h_ (And.intro hod hval);have HOL:=h_ hol;clear hown hod hval hol;by_cases hlt:k<=n
    . obtain⟨x,hx⟩:=Nq (l.getD k 0)
      obtain⟨y,hy⟩:=Nq (m.getD k 0);have hx10:x<10:=(by rw[<- hx];exact hl.getD k);have hy10:y<10:=(by rw[<- hy];exact hm.getD k);have HX:=h_ hx;have HY:=h_ hy;clear hx hy;have V2:=h_ (HV.u.mono hb);have U2:=h_ (HU.u.mono hb);clear hb;go_wp2_with fail;refine(q4u _ l k wr V2.u x HX.u).mono ?_;rintro e w' ⟨rfl,rfl⟩;go_wp2_with fail;refine(q4u _ m k w' U2.u y HY.u).mono ?_;rintro e w'' ⟨rfl,rfl⟩;have hs10:(x+y+cc) / 10<=1:=(by omega);obtain⟨i0,hi,hz0,hz1,hz2⟩:=info_parts infoI;go_wp2_with (at_builtin;refine wpList_append_own _ rfl _ _ 50 rfl w.heap.size 3 i0 _ 1 8 Tryz.underlying50 hi hz0 hz1 hz2 rfl (by omega) u6 _ _ rfl (HO.u.alloc _) ⟨w''.heap.size,0,none⟩ 1 1 [Ya (((x:Int)+y+cc) % 10)] rfl rfl (qbm w'' 3 _) (by simp[Value.oneCell']) (by unfold maxLen;omega) (by omega) (by have:=HB.u.size;simp;omega) ?_);intro v' w' hown' hgrow' _;have hB':=(HB.u.alloc (by have:=HB.u.size;omega) (.cells #[Ya (((x:Int)+y+cc) % 10)] 3)).grown hgrow' (by have:=HB.u.size;simp;omega) (fun q' e=>q7l HO.u e);have HO3:Hi (w'.ownsRow w.heap.size 3 1 v' (k+1) (ui (o++[(x+y+cc) % 10]))):=by
       rw[Hi];simpa [ui] using hown'
      have HB3:=h_ hB';clear hown' hgrow' hB' hi hz0 hz1 hz2;go_wp2_with fail;go_roundw
      case rel =>
       refine⟨k+1,(x+y+cc) / 10,o++[(x+y+cc) % 10],by omega,by go_num,by go_num,hs10,?_,?_,?_,HO3.u,HB3.u⟩
       . have:=HOL.u;simp[this]
       . exact HD.u.1.snoc (by omega)
       . rw[q90,HOL.u,qcw,qcw,<- dig_at hl,<- dig_at hm,HX.u,HY.u]
         exact qb3 HD.u.2 rfl
      case measure=>simp[intOf];omega
    . obtain rfl:k=n+1:=by omega
      have h1:=HD.u.2;rw[qhl hl (by have:=HN.u;omega),qhl hm (by have:=HN.u;omega)]at h1;have hc0:cc=0:=by
       have h2:=Y3 (qg6 hl) (Vz (n:=10) (by decide) HN.u.1);have h3:=Y3 (qg6 hm) (Vz (n:=10) (by decide) HN.u.2);rw[Nat.pow_succ]at h1;rcases (by omega:cc=0∨cc=1) with h | h
       . exact h
       . subst h;omega
      subst hc0;have hval:dval o=dval l+dval m:=(by omega);have hdo:=HD.u.1;have HOd:DigS wr u6 o:=(by have:=HO.u;rw[<- HOL.u]at this;exact q2q this);have hol:o.length<=1000:=(by have:=HOL.u;omega);clear HD HO HOL h1;go_wp2_with fail;refine(q6x u6 o wr HOd hdo hol).mono ?_;rintro e w' ⟨r,rfl,hr,rfl⟩;rw[hval]at hr;have HR:=h_ hr;clear hr;go_wp2;go_ret;exact⟨_,rfl,HR.u,HB.u⟩
theorem q38 (v u:Value)(l m:List Nat)(w:World)(hv:DigS w v l)(hu:DigS w u m)(hl:Dig l)(hm:Dig m)(bl:l.length<=500)(hle:dval m<=dval l) :
 Calls Tryz.prog 179 #[v,u] w fun e w'=>∃r,e=.returned r/\DigS w' r (digs (dval l - dval m))/\Below w.heap.size w w':=by
 have HB0:Hi (Below w.heap.size w (w.alloc (.cells #[] 3))):=(bR _ _).alloc (nR _) _
 obtain⟨a,ca,rfl,-,-,hA⟩:=id hv
 obtain⟨b,cb,rfl,-,-,hB⟩:=id hu
 have HV:=h_ hv;have HU:=h_ hu;have HLE:=h_ hle;clear hv hu hA hB hle
 go_enter Tryz.func179,Tryz.ntmps179
 go_wp2_with fail
 go_loopw [5,6,7] (fun out c i wr=>∃(k cc:Nat) (o:List Nat),k<=l.length/\i=Ya k/\c=Ya cc/\cc<=1/\o.length=k/\Dig o/\dval l % 10 ^ k+cc*10 ^ k=dval o+dval m % 10 ^ k/\wr.ownsRow w.heap.size 3 1 out k (ui o)/\Below w.heap.size w wr) (fun _ _ i _=>l.length - (intOf i).toNat)
 case atStart=>exact⟨0,0,[],by omega,rfl,rfl,by omega,rfl,(fun d hd=>by cases hd),by simp[dval,Nat.mod_one],q9y w 3,HB0.u⟩
 case round =>
  clear HB0;obtain⟨k,cc,o,hk,rfl,rfl,hcc,hol,hod,hval,hown,hb⟩:=hrel;have HO:=h_ hown;have HB:=h_ hb;have HD:=h_ (And.intro hod hval);have HOL:=h_ hol;clear hown hod hval hol;by_cases hlt:k<l.length
  . obtain⟨x,hx⟩:=Nq (l.getD k 0)
    obtain⟨y,hy⟩:=Nq (m.getD k 0);have hx10:x<10:=(by rw[<- hx];exact hl.getD k);have hy10:y<10:=(by rw[<- hy];exact hm.getD k);have HX:=h_ hx;have HY:=h_ hy;clear hx hy;have V2:=h_ (HV.u.mono hb);have U2:=h_ (HU.u.mono hb);clear hb;go_wp2_with fail;refine(q4u _ l k wr V2.u x HX.u).mono ?_;rintro e w' ⟨rfl,rfl⟩;go_wp2_with fail;refine(q4u _ m k w' U2.u y HY.u).mono ?_;rintro e w'' ⟨rfl,rfl⟩;by_cases hneg:x<y+cc
    . have hn':(x:Int) - y - cc<0:=by omega
      obtain⟨i0,hi,hz0,hz1,hz2⟩:=info_parts infoI;go_wp2_with (at_builtin;refine wpList_append_own _ rfl _ _ 50 rfl w.heap.size 3 i0 _ 1 8 Tryz.underlying50 hi hz0 hz1 hz2 rfl (by omega) u5 _ _ rfl (HO.u.alloc _) ⟨w''.heap.size,0,none⟩ 1 1 [Ya ((x:Int) - y - cc+10)] rfl rfl (qbm w'' 3 _) (by simp[Value.oneCell']) (by unfold maxLen;omega) (by omega) (by have:=HB.u.size;simp;omega) ?_);intro v' w' hown' hgrow' _;have hB':=(HB.u.alloc (by have:=HB.u.size;omega) (.cells #[Ya ((x:Int) - y - cc+10)] 3)).grown hgrow' (by have:=HB.u.size;simp;omega) (fun q' e=>q7l HO.u e);have HO3:Hi (w'.ownsRow w.heap.size 3 1 v' (k+1) (ui (o++[x+10 - y - cc]))):=by
       rw[Hi];rw[show(x:Int) - y - cc+10=((x+10 - y - cc:Nat):Int) by omega]at hown';simpa [ui] using hown'
      have HB3:=h_ hB';clear hown' hgrow' hB' hi hz0 hz1 hz2;go_wp2_with fail;go_roundw
      case rel =>
       refine⟨k+1,1,o++[x+10 - y - cc],by omega,by go_num,rfl,by omega,?_,?_,?_,HO3.u,HB3.u⟩
       . have:=HOL.u;simp[this]
       . exact HD.u.1.snoc (by omega)
       . rw[q90,HOL.u,qcw,qcw,<- dig_at hl,<- dig_at hm,HX.u,HY.u]
         obtain⟨d,b,h1,h2,h3,h4,h5⟩:=qee HD.u.2 hcc hx10 hy10;obtain rfl:b=1:=(by omega);obtain rfl:d=x+10 - y - cc:=(by omega);exact h5
      case measure=>simp[intOf];omega
    . have hn':0<=(x:Int) - y - cc:=by omega
      obtain⟨i0,hi,hz0,hz1,hz2⟩:=info_parts infoI;go_wp2_with (at_builtin;refine wpList_append_own _ rfl _ _ 50 rfl w.heap.size 3 i0 _ 1 8 Tryz.underlying50 hi hz0 hz1 hz2 rfl (by omega) u5 _ _ rfl (HO.u.alloc _) ⟨w''.heap.size,0,none⟩ 1 1 [Ya ((x:Int) - y - cc)] rfl rfl (qbm w'' 3 _) (by simp[Value.oneCell']) (by unfold maxLen;omega) (by omega) (by have:=HB.u.size;simp;omega) ?_);intro v' w' hown' hgrow' _;have hB':=(HB.u.alloc (by have:=HB.u.size;omega) (.cells #[Ya ((x:Int) - y - cc)] 3)).grown hgrow' (by have:=HB.u.size;simp;omega) (fun q' e=>q7l HO.u e);have HO3:Hi (w'.ownsRow w.heap.size 3 1 v' (k+1) (ui (o++[x - y - cc]))):=by
       rw[Hi];rw[show(x:Int) - y - cc=((x - y - cc:Nat):Int) by omega]at hown';simpa [ui] using hown'
      have HB3:=h_ hB';clear hown' hgrow' hB' hi hz0 hz1 hz2;go_wp2_with fail;go_roundw
      case rel =>
       refine⟨k+1,0,o++[x - y - cc],by omega,by go_num,rfl,by omega,?_,?_,?_,HO3.u,HB3.u⟩
       . have:=HOL.u;simp[this]
       . exact HD.u.1.snoc (by omega)
       . rw[q90,HOL.u,qcw,qcw,<- dig_at hl,<- dig_at hm,HX.u,HY.u]
         obtain⟨d,b,h1,h2,h3,h4,h5⟩:=qee HD.u.2 hcc hx10 hy10;obtain rfl:b=0:=(by omega);obtain rfl:d=x - y - cc:=(by omega);exact h5
      case measure=>simp[intOf];omega
  . obtain rfl:k=l.length:=by omega
    have h1:=HD.u.2;have h2:=qg6 hl;have h3:=HLE.u;rw[qhl hl (nR _),Nat.mod_eq_of_lt (by omega:dval m<10 ^ l.length)]at h1;have h4:=qg6 HD.u.1;rw[HOL.u]at h4;have hc0:cc=0:=by
     rcases (by omega:cc=0∨cc=1) with h | h
     . exact h
     . subst h;omega
    subst hc0;have hval:dval o=dval l - dval m:=(by omega);have hdo:=HD.u.1;have HOd:DigS wr u5 o:=(by have:=HO.u;rw[<- HOL.u]at this;exact q2q this);have hol:o.length<=1000:=(by have:=HOL.u;omega);clear HD HO HOL h1 h2 h3 h4;go_wp2_with fail;refine(q6x u5 o wr HOd hdo hol).mono ?_;rintro e w' ⟨r,rfl,hr,rfl⟩;rw[hval]at hr;have HR:=h_ hr;clear hr;go_wp2;go_ret;exact⟨_,rfl,HR.u,HB.u⟩
def BigV (w:World)(v:Value)(z:Int):Prop:=∃u,v=.agg #[.bool (decide (z<0)),u]/\DigS w u (digs z.natAbs)
theorem BigV.mono {w w':World}{v:Value}{z:Int}(h:BigV w v z)(hb:Below w.heap.size w w'):BigV w' v z:=by
 obtain⟨u,e,hu⟩:=h
 exact⟨u,e,hu.mono hb⟩
theorem two {w:World}{b:Nat}{t:TypeId}{v0 v1:Value}(h:Blk w b t [v0,v1]) :
 (w.cell? ⟨b,0,none⟩=some v0/\w.cell? ⟨b,1,none⟩=some v1)/\(w.frozen? ⟨b,0,none⟩=false/\w.frozen? ⟨b,1,none⟩=false):=⟨⟨h.cell 0,h.cell 1⟩,⟨h.free 0,h.free 1⟩⟩
theorem q36 (v:Value)(z:Int)(w:World)(hv:BigV w v z) :
 Calls Tryz.prog 149 #[v] w fun e w'=>∃r,e=.returned r/\BigV w' r (-z)/\Below w.heap.size w w':=by
 obtain⟨u,rfl,hu⟩:=hv
 obtain⟨a,ca,rfl,-,-,-⟩:=id hu
 have HU:=h_ hu;clear hu
 by_cases hz:z=0
 . subst hz
   have e0:(digs (Int.natAbs 0)).length=0:=by simp[q8u]
   rw[e0]at HU⊢;have hB:∀o1 o2,Below w.heap.size w ((w.alloc o1).alloc o2):=fun o1 o2=>((bR _ w).alloc (nR _) o1).alloc (by simp) o2;have HB:=h_ hB;clear hB;go_enter Tryz.func149,Tryz.ntmps149;go_wp2;refine bodyPost_ret (v:=.agg #[.bool false,.slice a 0 ca]) (by simp[results,Tryz.results149,go_sem, *]) rfl ⟨_,rfl,⟨_,rfl,?_⟩,HB.u _ _⟩;exact HU.u.mono (HB.u _ _)
 . have hn:(digs z.natAbs).length≠0:=by intro e;have:=qbw.1 (Z2.1 e);omega
   have hB:∀o1 o2,Below w.heap.size w ((w.alloc o1).alloc o2):=fun o1 o2=>((bR _ w).alloc (nR _) o1).alloc (by simp) o2;have HB:=h_ hB;clear hB;have hs:decide (-z<0) = !decide (z<0):=by
    by_cases h:z<0
    . simp[h];omega
    . simp[h];omega
   have HS:=h_ hs;clear hs;go_enter Tryz.func149,Tryz.ntmps149;go_wp2;refine bodyPost_ret (v:=.agg #[.bool (!decide (z<0)),.slice a (digs z.natAbs).length ca]) (by simp[results,Tryz.results149,go_sem, *]) rfl ⟨_,rfl,⟨_,by rw[HS.u],?_⟩,HB.u _ _⟩;rw[Int.natAbs_neg];exact HU.u.mono (HB.u _ _)
theorem qg5 {z:Int}(h:z≠0):(digs z.natAbs).length≠0:=by intro e;have:=qbw.1 (Z2.1 e);omega
theorem DigS.set {w:World}{v:Value}{l:List Nat}{R:Nat}{t:TypeId}{x:Bool}{y:Value}(h:DigS w v l)(hR:Blk w R t [.bool x,y])(hy:∀z,y≠Ya z)(j:Nat)(u:Value):DigS (w.setCell ⟨R,j,none⟩ u) v l:=by
 obtain⟨a,cap,e,hc,hn,hI⟩:=h
 refine⟨a,cap,e,hc,hn,fun k hk=>?_⟩
 obtain⟨b,off,e1,h1,h2⟩:=hI k hk
 have hb:b≠R:=by
  rintro rfl;rw[hR.cell]at h2
  match off+k,h2 with
  | 0,h2=>simp at h2
  | 1,h2=>simp at h2;exact hy _ h2
 refine⟨b,off,e1,by simpa using h1,?_⟩
 have:=World.cell?_of_block (a:=⟨b,off+k,none⟩) (heap_setCell_other w ⟨R,j,none⟩ b u hb)
 exact this.trans h2
def Four (w:World)(A B:Nat)(v0 v1 u0 u1:Value):Prop:=w.cell? ⟨A,0,none⟩=some v0/\w.cell? ⟨A,1,none⟩=some v1/\w.cell? ⟨B,0,none⟩=some u0/\w.cell? ⟨B,1,none⟩=some u1
theorem four {w:World}{A B:Nat}{t:TypeId}{v0 v1 u0 u1:Value}(h:Blk w A t [v0,v1])(k:Blk w B t [u0,u1]):Four w A B v0 v1 u0 u1:=⟨h.cell 0,h.cell 1,k.cell 0,k.cell 1⟩
theorem q43 (v1 u1:Value)(x y:Int)(w:World)(hv1:DigS w v1 (digs x.natAbs))(hu1:DigS w u1 (digs y.natAbs))(hx:x<0)(hy:y<0)(bx:(digs x.natAbs).length<=500)(by':(digs y.natAbs).length<=500) :
 Calls Tryz.prog 148 #[.agg #[.bool true,v1],.agg #[.bool true,u1]] w fun e w'=>∃r,e=.returned r/\BigV w' r (x+y)/\Below w.heap.size w w':=by
 have hB:∀o1 o2 o3,Below w.heap.size w (((w.alloc o1).alloc o2).alloc o3):=fun o1 o2 o3=>(((bR _ w).alloc (nR _) o1).alloc (by simp) o2).alloc (by simp;omega) o3
 obtain⟨W,hW⟩:=Nq (((w.alloc (.cells #[.bool true,v1] 124)).alloc (.cells #[.bool true,u1] 124)).alloc (.cells Jo 124))
 have bA:Blk W w.heap.size 124 [.bool true,v1]:=by rw[<- hW];exact((Blk.new w 124 #[.bool true,v1]).alloc _).alloc _
 have bB:Blk W (w.heap.size+1) 124 [.bool true,u1]:=by rw[<- hW];simpa using (Blk.new (w.alloc (.cells #[.bool true,v1] 124)) 124 #[.bool true,u1]).alloc (.cells Jo 124)
 have bR:Blk W (w.heap.size+1+1) 124 [.bool false,Yb]:=by rw[<- hW];simpa using Blk.new ((w.alloc (.cells #[.bool true,v1] 124)).alloc (.cells #[.bool true,u1] 124)) 124 Jo
 have hw:Below w.heap.size w W:=by rw[<- hW];exact hB _ _ _
 have HA:=h_ bA;have HBb:=h_ bB;have HR:=h_ bR;have HW:=h_ hw;have HV:=h_ (hv1.mono hw);have HU:=h_ (hu1.mono hw)
 obtain⟨a,ca,rfl,-,-,-⟩:=id hv1
 obtain⟨b,cb,rfl,-,-,-⟩:=id hu1
 have HDX:=h_ (And.intro (qbu x.natAbs) (q8z x.natAbs));have HDY:=h_ (And.intro (qbu y.natAbs) (q8z y.natAbs))
 have HXY:=h_ (And.intro hx hy)
 have hres:decide (x+y<0)=true/\(x+y).natAbs=x.natAbs+y.natAbs:=by
  constructor
  . simp;omega
  . omega
 have HRES:=h_ hres;clear hres
 have hlen:0<(digs x.natAbs).length:=by have:=qg5 (z:=x) (by omega);omega
 have S0:=h_ (four bA bB)
 obtain⟨z0,z1,z2,z3⟩:=S0.u
 clear bA bB bR hw hv1 hu1 hB hx hy
 go_enter Tryz.func148,Tryz.ntmps148
 go_wp2_with fail
 try rw[hW]
 clear hW
 refine wp_region_held_drew (S:=fun w'=>Four w' w.heap.size (w.heap.size+1) (.bool true) (.slice a (digs x.natAbs).length ca) (.bool true) (.slice b (digs y.natAbs).length cb)) (by kernel_rfl) S0.u (fun zz=>?_)
 refine tj 0 11 (Yd w.heap.size 0) zz ?_ (hy:=fun w hS=>by obtain⟨q0,q1,q2,q3⟩:=hS;simp[execOp,go_sem, *])
 refine tj 1 12 (.bool true) zz ?_ (hy:=fun w hS=>by obtain⟨q0,q1,q2,q3⟩:=hS;simp[execOp,go_sem, *])
 refine tj 2 13 (.bool true) zz ?_ (hy:=fun w hS=>by obtain⟨q0,q1,q2,q3⟩:=hS;simp[execOp,go_sem, *])
 refine tj 3 14 (Yd w.heap.size 1) zz ?_ (hy:=fun w hS=>by obtain⟨q0,q1,q2,q3⟩:=hS;simp[execOp,go_sem, *])
 simp only[sX,sY,sZ]
 refine tj 4 15 (.slice a (digs x.natAbs).length ca) zz ?_ (hy:=fun w hS=>by obtain⟨q0,q1,q2,q3⟩:=hS;simp[execOp,go_sem, *])
 refine tj 5 16 (Ya (digs x.natAbs).length) zz ?_ (hy:=fun w hS=>by obtain⟨q0,q1,q2,q3⟩:=hS;simp[execOp,go_sem, *])
 refine tj 6 17 (.bool true) zz ?_ (hy:=fun w hS=>by obtain⟨q0,q1,q2,q3⟩:=hS;simp[execOp,go_sem, *])
 refine tj 7 18 (.bool true) zz ?_ (hy:=fun w hS=>by obtain⟨q0,q1,q2,q3⟩:=hS;simp[execOp,go_sem, *])
 simp only[sX,sY,sZ]
 refine tj 8 19 (Yd w.heap.size 1) zz ?_ (hy:=fun w hS=>by obtain⟨q0,q1,q2,q3⟩:=hS;simp[execOp,go_sem, *])
 refine tj 9 20 (.slice a (digs x.natAbs).length ca) zz ?_ (hy:=fun w hS=>by obtain⟨q0,q1,q2,q3⟩:=hS;simp[execOp,go_sem, *])
 refine tj 10 21 (Yd (w.heap.size+1) 1) zz ?_ (hy:=fun w hS=>by obtain⟨q0,q1,q2,q3⟩:=hS;simp[execOp,go_sem, *])
 refine tj 11 22 (.slice b (digs y.natAbs).length cb) zz ?_ (hy:=fun w hS=>by obtain⟨q0,q1,q2,q3⟩:=hS;simp[execOp,go_sem, *])
 simp only[sX,sY,sZ]
 refine callY (i:=12) (f:=177) (args:=#[.slice a (digs x.natAbs).length ca,.slice b (digs y.natAbs).length cb]) (R:=fun r w6=>DigS w6 r (digs (dval (digs x.natAbs)+dval (digs y.natAbs)))/\Below W.heap.size W w6) 23 rfl rfl (by rfl) (by kernel_rfl) ?hrun1 ((q37 _ _ _ _ _ (HV.u.mono (q2o _ 1)) (HU.u.mono (q2o _ 1)) HDX.u.1 HDY.u.1 bx by').mono fun e w6 ⟨r,he,hr,hb⟩=>⟨r,he,hr,q23 hb⟩) ?_
 case hrun1=>simp[execOp,go_sem]
 rintro v w6 ⟨hr,hb6⟩
 have A6:=HA.u.mono hb6 HA.u.lt;have B6:=HBb.u.mono hb6 HBb.u.lt;have R6:=HR.u.mono hb6 HR.u.lt
 have hW6:=HW.u.trans (hb6.mono HW.u.size)
 have hs6:=A6.lt
 refine⟨four A6 B6,?_⟩
 simp only[sX,sY,sZ]
 replace zz:=four A6 B6
 obtain⟨g,cg,rfl,-⟩:=id hr
 have HRR:=h_ hr;clear hr
 refine tj 13 24 (.agg #[.bool true,.slice g (digs (dval (digs x.natAbs)+dval (digs y.natAbs))).length cg]) zz ?_ (hy:=fun w hS=>by obtain⟨q0,q1,q2,q3⟩:=hS;simp[execOp,go_sem, *])
 simp only[sX,sY,sZ]
 obtain⟨⟨r0,r1⟩,⟨f0,f1⟩⟩:=two R6
 refine storeY (i:=14) (w':=(w6.setCell ⟨w.heap.size+1+1,0,none⟩ (.bool true)).setCell ⟨w.heap.size+1+1,1,none⟩ (.slice g (digs (dval (digs x.natAbs)+dval (digs y.natAbs))).length cg)) rfl (by rfl) (by kernel_rfl) rfl ?hrun2 rfl ?hS2 ?_
 case hrun2=>simp[execOp,go_sem,r0,r1,f0,f1]
 case hS2=>exact four ((A6.other _ (by simp;omega)).other _ (by simp;omega)) ((B6.other _ (by simp)).other _ (by simp))
 refine wpAnyH_done (by kernel_rfl) ?_ _
 have X0:=((R6.set 0 (.bool true)).set 1 (.slice g (digs (dval (digs x.natAbs)+dval (digs y.natAbs))).length cg))
 obtain⟨⟨y0,y1⟩,-⟩:=two X0
 have HWX:=h_ ((hW6.setCell (p:=⟨w.heap.size+1+1,0,none⟩) (by simp;omega) (.bool true)).setCell (p:=⟨w.heap.size+1+1,1,none⟩) (by simp;omega) (.slice g (digs (dval (digs x.natAbs)+dval (digs y.natAbs))).length cg))
 have hD:DigS ((w6.setCell ⟨w.heap.size+1+1,0,none⟩ (.bool true)).setCell ⟨w.heap.size+1+1,1,none⟩ (.slice g (digs (dval (digs x.natAbs)+dval (digs y.natAbs))).length cg)) (.slice g (digs (dval (digs x.natAbs)+dval (digs y.natAbs))).length cg) (digs (x+y).natAbs):=by
  have h1:=HRR.u;rw[HDX.u.2,HDY.u.2,<- HRES.u.2]at h1⊢;exact(h1.set R6 (fun z h=>by cases h) 0 (.bool true)).set (R6.set 0 (.bool true)) (fun z h=>by cases h) 1 _
 have HDD:=h_ hD;clear hD HRR A6 B6 R6 hW6 X0 zz hb6
 generalize (w6.setCell ⟨w.heap.size+1+1,0,none⟩ (.bool true)).setCell ⟨w.heap.size+1+1,1,none⟩ (.slice g (digs (dval (digs x.natAbs)+dval (digs y.natAbs))).length cg)=W9 at *
 go_wp2
 refine bodyPost_ret (v:=.agg #[.bool true,.slice g (digs (dval (digs x.natAbs)+dval (digs y.natAbs))).length cg]) (by simp[results,Tryz.results148,go_sem, *]) rfl ⟨_,rfl,⟨_,by rw[HRES.u.1],HDD.u⟩,HWX.u⟩
theorem q44 (v1 u1:Value)(x y:Int)(w:World)(hv1:DigS w v1 (digs x.natAbs))(hu1:DigS w u1 (digs y.natAbs))(hx:0<=x)(hy:0<=y)(bx:(digs x.natAbs).length<=500)(by':(digs y.natAbs).length<=500) :
 Calls Tryz.prog 148 #[.agg #[.bool false,v1],.agg #[.bool false,u1]] w fun e w'=>∃r,e=.returned r/\BigV w' r (x+y)/\Below w.heap.size w w':=by
 have hB:∀o1 o2 o3,Below w.heap.size w (((w.alloc o1).alloc o2).alloc o3):=fun o1 o2 o3=>(((bR _ w).alloc (nR _) o1).alloc (by simp) o2).alloc (by simp;omega) o3
 obtain⟨W,hW⟩:=Nq (((w.alloc (.cells #[.bool false,v1] 124)).alloc (.cells #[.bool false,u1] 124)).alloc (.cells Jo 124))
 have bA:Blk W w.heap.size 124 [.bool false,v1]:=by rw[<- hW];exact((Blk.new w 124 #[.bool false,v1]).alloc _).alloc _
 have bB:Blk W (w.heap.size+1) 124 [.bool false,u1]:=by rw[<- hW];simpa using (Blk.new (w.alloc (.cells #[.bool false,v1] 124)) 124 #[.bool false,u1]).alloc (.cells Jo 124)
 have bR:Blk W (w.heap.size+1+1) 124 [.bool false,Yb]:=by rw[<- hW];simpa using Blk.new ((w.alloc (.cells #[.bool false,v1] 124)).alloc (.cells #[.bool false,u1] 124)) 124 Jo
 have hw:Below w.heap.size w W:=by rw[<- hW];exact hB _ _ _
 have HA:=h_ bA;have HBb:=h_ bB;have HR:=h_ bR;have HW:=h_ hw;have HV:=h_ (hv1.mono hw);have HU:=h_ (hu1.mono hw)
 obtain⟨a,ca,rfl,-,-,-⟩:=id hv1
 obtain⟨b,cb,rfl,-,-,-⟩:=id hu1
 have HDX:=h_ (And.intro (qbu x.natAbs) (q8z x.natAbs));have HDY:=h_ (And.intro (qbu y.natAbs) (q8z y.natAbs))
 have HXY:=h_ (And.intro hx hy)
 have hres:decide (x+y<0)=false/\(x+y).natAbs=x.natAbs+y.natAbs:=by
  constructor
  . simp;omega
  . omega
 have HRES:=h_ hres;clear hres
 have S0:=h_ (four bA bB)
 obtain⟨z0,z1,z2,z3⟩:=S0.u
 clear bA bB bR hw hv1 hu1 hB hx hy
 go_enter Tryz.func148,Tryz.ntmps148
 go_wp2_with fail
 try rw[hW]
 clear hW
 refine wp_region_held_drew (S:=fun w'=>Four w' w.heap.size (w.heap.size+1) (.bool false) (.slice a (digs x.natAbs).length ca) (.bool false) (.slice b (digs y.natAbs).length cb)) (by kernel_rfl) S0.u (fun zz=>?_)
 refine tj 0 11 (Yd w.heap.size 0) zz ?_ (hy:=fun w hS=>by obtain⟨q0,q1,q2,q3⟩:=hS;simp[execOp,go_sem, *])
 refine tj 1 12 (.bool false) zz ?_ (hy:=fun w hS=>by obtain⟨q0,q1,q2,q3⟩:=hS;simp[execOp,go_sem, *])
 refine tj 2 13 (.bool false) zz ?_ (hy:=fun w hS=>by obtain⟨q0,q1,q2,q3⟩:=hS;simp[execOp,go_sem, *])
 refine tn 3 14 zz ?_
 simp only[sX,sY,sZ]
 refine tn 4 15 zz ?_
 refine tn 5 16 zz ?_
 refine tn 6 17 zz ?_
 refine tj 7 18 (.bool false) zz ?_ (hy:=fun w hS=>by obtain⟨q0,q1,q2,q3⟩:=hS;simp[execOp,go_sem, *])
 simp only[sX,sY,sZ]
 refine tj 8 19 (Yd w.heap.size 1) zz ?_ (hy:=fun w hS=>by obtain⟨q0,q1,q2,q3⟩:=hS;simp[execOp,go_sem, *])
 refine tj 9 20 (.slice a (digs x.natAbs).length ca) zz ?_ (hy:=fun w hS=>by obtain⟨q0,q1,q2,q3⟩:=hS;simp[execOp,go_sem, *])
 refine tj 10 21 (Yd (w.heap.size+1) 1) zz ?_ (hy:=fun w hS=>by obtain⟨q0,q1,q2,q3⟩:=hS;simp[execOp,go_sem, *])
 refine tj 11 22 (.slice b (digs y.natAbs).length cb) zz ?_ (hy:=fun w hS=>by obtain⟨q0,q1,q2,q3⟩:=hS;simp[execOp,go_sem, *])
 simp only[sX,sY,sZ]
 refine callY (i:=12) (f:=177) (args:=#[.slice a (digs x.natAbs).length ca,.slice b (digs y.natAbs).length cb]) (R:=fun r w6=>DigS w6 r (digs (dval (digs x.natAbs)+dval (digs y.natAbs)))/\Below W.heap.size W w6) 23 rfl rfl (by rfl) (by kernel_rfl) ?hrun1 ((q37 _ _ _ _ _ (HV.u.mono (q2o _ 1)) (HU.u.mono (q2o _ 1)) HDX.u.1 HDY.u.1 bx by').mono fun e w6 ⟨r,he,hr,hb⟩=>⟨r,he,hr,q23 hb⟩) ?_
 case hrun1=>simp[execOp,go_sem]
 rintro v w6 ⟨hr,hb6⟩
 have A6:=HA.u.mono hb6 HA.u.lt;have B6:=HBb.u.mono hb6 HBb.u.lt;have R6:=HR.u.mono hb6 HR.u.lt
 have hW6:=HW.u.trans (hb6.mono HW.u.size)
 have hs6:=A6.lt
 refine⟨four A6 B6,?_⟩
 simp only[sX,sY,sZ]
 replace zz:=four A6 B6
 obtain⟨g,cg,rfl,-⟩:=id hr
 have HRR:=h_ hr;clear hr
 refine tj 13 24 (.agg #[.bool false,.slice g (digs (dval (digs x.natAbs)+dval (digs y.natAbs))).length cg]) zz ?_ (hy:=fun w hS=>by obtain⟨q0,q1,q2,q3⟩:=hS;simp[execOp,go_sem, *])
 simp only[sX,sY,sZ]
 obtain⟨⟨r0,r1⟩,⟨f0,f1⟩⟩:=two R6
 refine storeY (i:=14) (w':=(w6.setCell ⟨w.heap.size+1+1,0,none⟩ (.bool false)).setCell ⟨w.heap.size+1+1,1,none⟩ (.slice g (digs (dval (digs x.natAbs)+dval (digs y.natAbs))).length cg)) rfl (by rfl) (by kernel_rfl) rfl ?hrun2 rfl ?hS2 ?_
 case hrun2=>simp[execOp,go_sem,r0,r1,f0,f1]
 case hS2=>exact four ((A6.other _ (by simp;omega)).other _ (by simp;omega)) ((B6.other _ (by simp)).other _ (by simp))
 refine wpAnyH_done (by kernel_rfl) ?_ _
 have X0:=((R6.set 0 (.bool false)).set 1 (.slice g (digs (dval (digs x.natAbs)+dval (digs y.natAbs))).length cg))
 obtain⟨⟨y0,y1⟩,-⟩:=two X0
 have HWX:=h_ ((hW6.setCell (p:=⟨w.heap.size+1+1,0,none⟩) (by simp;omega) (.bool false)).setCell (p:=⟨w.heap.size+1+1,1,none⟩) (by simp;omega) (.slice g (digs (dval (digs x.natAbs)+dval (digs y.natAbs))).length cg))
 have hD:DigS ((w6.setCell ⟨w.heap.size+1+1,0,none⟩ (.bool false)).setCell ⟨w.heap.size+1+1,1,none⟩ (.slice g (digs (dval (digs x.natAbs)+dval (digs y.natAbs))).length cg)) (.slice g (digs (dval (digs x.natAbs)+dval (digs y.natAbs))).length cg) (digs (x+y).natAbs):=by
  have h1:=HRR.u;rw[HDX.u.2,HDY.u.2,<- HRES.u.2]at h1⊢;exact(h1.set R6 (fun z h=>by cases h) 0 (.bool false)).set (R6.set 0 (.bool false)) (fun z h=>by cases h) 1 _
 have HDD:=h_ hD;clear hD HRR A6 B6 R6 hW6 X0 zz hb6
 generalize (w6.setCell ⟨w.heap.size+1+1,0,none⟩ (.bool false)).setCell ⟨w.heap.size+1+1,1,none⟩ (.slice g (digs (dval (digs x.natAbs)+dval (digs y.natAbs))).length cg)=W9 at *
 go_wp2
 refine bodyPost_ret (v:=.agg #[.bool false,.slice g (digs (dval (digs x.natAbs)+dval (digs y.natAbs))).length cg]) (by simp[results,Tryz.results148,go_sem, *]) rfl ⟨_,rfl,⟨_,by rw[HRES.u.1],HDD.u⟩,HWX.u⟩
end Go.Proofs.YtfmammdgehbjhaaGreatDoor
