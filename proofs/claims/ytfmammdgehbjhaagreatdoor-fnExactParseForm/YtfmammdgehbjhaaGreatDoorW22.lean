import Derived.Test.YtfmammdgehbjhaaGreatDoorW21
set_option maxRecDepth 100000
set_option maxHeartbeats 64000000
namespace Go.Proofs.YtfmammdgehbjhaaGreatDoor
open Go Go.RowKit
theorem q67 (s:ByteArray)(i:Nat)(w:World)(hi:i<=s.size):Calls Tryz.prog 98 #[.string s,Ya (i:Nat)] w fun e w'=>e=.returned (.int .u8 (bt s i:Nat))/\w'=w:=by
 by_cases h:i<s.size
 . have hne:((i:Int)==(s.size:Int))=false:=Ye.2 (by omega)
   have hlt:(i:Int)<(s.size:Int):=by omega
   rw[bt_lt h];go_enter Tryz.func98,Tryz.ntmps98;go_wp2_with fail;go_ret;exact⟨rfl,rfl⟩
 . obtain rfl:i=s.size:=by omega
   have hne:((s.size:Int)==(s.size:Int))=true:=by simp
   rw[bt_ge h];go_enter Tryz.func98,Tryz.ntmps98;go_wp2_with fail;go_ret;exact⟨rfl,rfl⟩
theorem qa1:∀b:Fin 256,decide (0<=Lib.indexByte [40,41,44,59,43,45,42,47,37,38,61] ((b.val:Nat):Int).toNat.toUInt8)=symB b.val:=by decide +kernel
theorem q0c (b:Nat)(hb:b<256)(w:World):Calls Tryz.prog 96 #[.int .u8 (b:Nat)] w fun e w'=>e=.returned (.bool (symB b))/\w'=w:=by
 have hp:=qa1 ⟨b,hb⟩
 simp only at hp
 have H:=h_ (Tryz.strings_IndexByte ⟨#[40,41,44,59,43,45,42,47,37,38,61]⟩ (b:Nat) w)
 rw[show(⟨#[40,41,44,59,43,45,42,47,37,38,61]⟩:ByteArray).data.toList=[40,41,44,59,43,45,42,47,37,38,61] from rfl]at H
 generalize Lib.indexByte [40,41,44,59,43,45,42,47,37,38,61] ((b:Nat):Int).toNat.toUInt8=r at *
 have HP:=h_ hp
 clear hp
 go_enter Tryz.func96,Tryz.ntmps96
 go_wp2_with fail
 refine H.u.mono ?_
 rintro e w1 ⟨rfl,rfl⟩
 go_wp2_with fail
 go_ret
 exact⟨qdx HP.u,rfl⟩
theorem qfk (s:ByteArray)(i:Nat):bt s i<256:=by
 unfold bt
 split
 . exact UInt8.toNat_lt _
 . omega
theorem qaf {p:Nat->Bool}{s:ByteArray}{k:Nat}(h:p (bt s k)=false):runN p s k=0:=by
 unfold runN
 by_cases hk:k<s.size
 . rw[bt_lt hk]at h
   have e:s.data.toList.drop k=s[k] :: s.data.toList.drop (k+1):=Y8 (l:=s.data.toList) (i:=k) (by rw[Z7];exact hk);rw[e,List.takeWhile_cons_of_neg (by simpa using h)];rfl
 . rw[Yx (by rw[Z7];exact Nat.le_of_not_lt hk)]
   rfl
theorem bt_in {p:Nat->Bool}(h0:p 0=false){s:ByteArray}{k:Nat}(h:p (bt s k)=true):k<s.size:=Yv fun hc=>by rw[bt_ge hc,h0]at h;cases h
def FrE (s:ByteArray)(i p:Nat)(a:Act):Prop:=∃u6 u7 u8 u9 u10 u11 u12 u13 u14 u15 u16 u17 u18 u19 u20 u21 u22 u23 u24 u25 u26 u27 u28 u29 u30 u31 u32 u33 u34 u35 u36 u37 u38 u39 u40 u41 u42 u43 u44 u45 u46 u47 u48 u49 u50 u51 u52 u53 u54 u55 u56 u57 u58 u59 u60 u61 u62 u63 u64 u65,a = { tmps:=#[.string s,.int .i64 (i:Nat),undef,undef,.int .i64 0,.int .i64 (p:Nat),u6,u7,u8,u9,u10,u11,u12,u13,u14,u15,u16,u17,u18,u19,u20,u21,u22,u23,u24,u25,u26,u27,u28,u29,u30,u31,u32,u33,u34,u35,u36,u37,u38,u39,u40,u41,u42,u43,u44,u45,u46,u47,u48,u49,u50,u51,u52,u53,u54,u55,u56,u57,u58,u59,u60,u61,u62,u63,u64,u65],defers:=[] }
theorem FrE.mk {s:ByteArray}{i p:Nat}{u6 u7 u8 u9 u10 u11 u12 u13 u14 u15 u16 u17 u18 u19 u20 u21 u22 u23 u24 u25 u26 u27 u28 u29 u30 u31 u32 u33 u34 u35 u36 u37 u38 u39 u40 u41 u42 u43 u44 u45 u46 u47 u48 u49 u50 u51 u52 u53 u54 u55 u56 u57 u58 u59 u60 u61 u62 u63 u64 u65:Value}:FrE s i p { tmps:=#[.string s,Ya (i:Nat),undef,undef,Ya 0,Ya (p:Nat),u6,u7,u8,u9,u10,u11,u12,u13,u14,u15,u16,u17,u18,u19,u20,u21,u22,u23,u24,u25,u26,u27,u28,u29,u30,u31,u32,u33,u34,u35,u36,u37,u38,u39,u40,u41,u42,u43,u44,u45,u46,u47,u48,u49,u50,u51,u52,u53,u54,u55,u56,u57,u58,u59,u60,u61,u62,u63,u64,u65],defers:=[] }:=⟨u6,u7,u8,u9,u10,u11,u12,u13,u14,u15,u16,u17,u18,u19,u20,u21,u22,u23,u24,u25,u26,u27,u28,u29,u30,u31,u32,u33,u34,u35,u36,u37,u38,u39,u40,u41,u42,u43,u44,u45,u46,u47,u48,u49,u50,u51,u52,u53,u54,u55,u56,u57,u58,u59,u60,u61,u62,u63,u64,u65,rfl⟩
def LbE (s:ByteArray)(i l p:Nat):Prop :=
 (l=0/\i+1<=p/\p<=s.size/\tokE s i=p+runN nameB s p)∨(l=1/\i+1<=p/\p<=s.size/\tokE s i=p+runN digitB s p) ∨
 (l=2/\i+1<=p/\p<=s.size/\tokE s i=(if bt s (p+runN tb s p)=34 then p+runN tb s p+1 else i)) ∨
 (l=3/\p=i+1/\tokE s i=if bt s (i+1)=62∨bt s (i+1)=61 then i+2 else i+1)∨(l=4/\p<=s.size/\tokE s i=p)
def muE (s:ByteArray)(l:Nat)(a:Act):Nat:=if l=4 then 0 else if l=3 then 1 else 2+(s.size - (intOf (a.tmps.getD 5 undef)).toNat)
theorem q3x (s:ByteArray)(i:Nat)(w:World)(hs:s.size<=1048576)(hi:i<s.size):Calls Tryz.prog 55 #[.string s,Ya (i:Nat)] w fun e w'=>e=.returned (Ya (tokE s i:Nat))/\w'=w:=by
 obtain⟨c,hc⟩:=Nq (bt s i)
 have hck:(s[i]).toNat=c:=by rw[<- hc,bt_lt hi]
 have hcb:c<256:=by rw[<- hc];exact qfk s i
 obtain⟨p1,hp1⟩:∃p,i+1=p:=⟨_,rfl⟩
 have hp1':=i_one hp1
 have hi':(i:Int)<(s.size:Int):=by omega
 have hpb:p1<=s.size:=by omega
 have HE:Hi (tokE s i=if small c=true then p1+runN nameB s p1 else if digitB c=true then p1+runN digitB s p1 else if c=34 then (if bt s (p1+runN tb s p1)=34 then p1+runN tb s p1+1 else i) else if c=60 then (if bt s (i+1)=62∨bt s (i+1)=61 then i+2 else i+1) else if symB c=true then p1 else i):=h_ (by unfold tokE;rw[hc,hp1])
 have HP1:=h_ hp1
 clear hc hp1
 go_enter Tryz.func55,Tryz.ntmps55
 go_wp2_with fail
 refine q7y (fun l a w'=>w'=w/\∃p,LbE s i l p/\FrE s i p a) (fun l a _=>muE s l a) ?first ?pass
 case first =>
  cases h1:small c
  case true =>
   have HL:Hi (LbE s i 0 p1):=h_ (.inl ⟨rfl,by have:=HP1.u;omega,hpb,by rw[HE.u,Yn h1]⟩);go_wp2_with (go_at_call 94;refine(q34 _ _).mono ?_;rintro e w' ⟨rfl,rfl⟩;rw[h1])
   go_step3
   exact(⟨rfl,p1,HL.u,FrE.mk⟩:_=_/\∃p,LbE s i 0 p/\FrE s i p _)
  cases h2:digitB c
  case true =>
   have HL:Hi (LbE s i 1 p1):=h_ (.inr (.inl ⟨rfl,by have:=HP1.u;omega,hpb,by rw[HE.u,h1,Yi (by decide),Yn h2]⟩));go_wp2_with (first | (go_at_call 94;refine(q34 _ _).mono ?_;rintro e w' ⟨rfl,rfl⟩;rw[h1]) | (go_at_call 95;refine(q4r _ _).mono ?_;rintro e w' ⟨rfl,rfl⟩;rw[h2]))
   go_step3
   exact(⟨rfl,p1,HL.u,FrE.mk⟩:_=_/\∃p,LbE s i 1 p/\FrE s i p _)
  rw[h1,h2,Yi (by decide),Yi (by decide)]at HE;by_cases h3:c=34
  case pos =>
   have h3':((c:Int)==34)=true:=by simp[h3]
   have HL:Hi (LbE s i 2 p1):=h_ (.inr (.inr (.inl ⟨rfl,by have:=HP1.u;omega,hpb,by rw[HE.u,Yn h3]⟩)));clear h3;go_wp2_with (first | (go_at_call 94;refine(q34 _ _).mono ?_;rintro e w' ⟨rfl,rfl⟩;rw[h1]) | (go_at_call 95;refine(q4r _ _).mono ?_;rintro e w' ⟨rfl,rfl⟩;rw[h2]))
   go_step3
   exact(⟨rfl,p1,HL.u,FrE.mk⟩:_=_/\∃p,LbE s i 2 p/\FrE s i p _)
  have h3':((c:Int)==34)=false:=Ye.2 (by omega);rw[Yi h3]at HE;by_cases h4:c=60
  case pos =>
   have h4':((c:Int)==60)=true:=by simp[h4]
   have HL:Hi (LbE s i 3 p1):=h_ (.inr (.inr (.inr (.inl ⟨rfl,HP1.u.symm,by rw[HE.u,Yn h4]⟩))));clear h3 h4;go_wp2_with (first | (go_at_call 94;refine(q34 _ _).mono ?_;rintro e w' ⟨rfl,rfl⟩;rw[h1]) | (go_at_call 95;refine(q4r _ _).mono ?_;rintro e w' ⟨rfl,rfl⟩;rw[h2]))
   go_step3
   exact(⟨rfl,p1,HL.u,FrE.mk⟩:_=_/\∃p,LbE s i 3 p/\FrE s i p _)
  have h4':((c:Int)==60)=false:=Ye.2 (by omega);rw[Yi h4]at HE;cases h5:symB c
  case true =>
   have HL:Hi (LbE s i 4 p1):=h_ (.inr (.inr (.inr (.inr ⟨rfl,hpb,by rw[HE.u,Yn h5]⟩))));clear h3 h4;go_wp2_with (first | (go_at_call 94;refine(q34 _ _).mono ?_;rintro e w' ⟨rfl,rfl⟩;rw[h1]) | (go_at_call 95;refine(q4r _ _).mono ?_;rintro e w' ⟨rfl,rfl⟩;rw[h2]) | (go_at_call 96;refine(q0c _ hcb _).mono ?_;rintro e w' ⟨rfl,rfl⟩;rw[h5]))
   go_step3
   exact(⟨rfl,p1,HL.u,FrE.mk⟩:_=_/\∃p,LbE s i 4 p/\FrE s i p _)
  have HL:Hi (tokE s i=i):=h_ (by rw[HE.u,h5,Yi (by decide)]);clear h3 h4;go_wp2_with (first | (go_at_call 94;refine(q34 _ _).mono ?_;rintro e w' ⟨rfl,rfl⟩;rw[h1]) | (go_at_call 95;refine(q4r _ _).mono ?_;rintro e w' ⟨rfl,rfl⟩;rw[h2]) | (go_at_call 96;refine(q0c _ hcb _).mono ?_;rintro e w' ⟨rfl,rfl⟩;rw[h5]));simp only[JmpM];go_ret;exact⟨qij (by rw[HL.u]),rfl⟩
 case pass =>
  rintro l a w' ⟨rfl,p,hl,hf⟩;obtain⟨u6,u7,u8,u9,u10,u11,u12,u13,u14,u15,u16,u17,u18,u19,u20,u21,u22,u23,u24,u25,u26,u27,u28,u29,u30,u31,u32,u33,u34,u35,u36,u37,u38,u39,u40,u41,u42,u43,u44,u45,u46,u47,u48,u49,u50,u51,u52,u53,u54,u55,u56,u57,u58,u59,u60,u61,u62,u63,u64,u65,rfl⟩:=hf;rcases hl with ⟨rfl,k1,k2,k3⟩ | ⟨rfl,k1,k2,k3⟩ | ⟨rfl,k1,k2,k3⟩ | ⟨rfl,rfl,k3⟩ | ⟨rfl,k2,k3⟩
  . refine⟨_,rfl,?_⟩
    have HK:=h_ k3;clear k3;cases hb:nameB (bt s p)
    . have HL:Hi (LbE s i 4 p):=h_ (.inr (.inr (.inr (.inr ⟨rfl,k2,by rw[HK.u,qaf hb];rfl⟩))))
      go_wp2_with (first | (go_at_call 98;refine(q67 _ _ _ k2).mono ?_;rintro e w' ⟨rfl,rfl⟩) | (go_at_call 97;refine(q1j _ _).mono ?_;rintro e w' ⟨rfl,rfl⟩;rw[hb]))
      go_step3
      refine(⟨⟨rfl,p,HL.u,FrE.mk⟩,?_⟩:(_=_/\∃p,LbE s i 4 p/\FrE s i p _)/\muE s 4 _<muE s 0 _);unfold muE;simp;omega
    . have hlt:p<s.size:=bt_in (p:=nameB) (by decide) hb
      obtain⟨q,hq⟩:=Nq (p+1);have hq':=i_one hq;have hqb:q<=s.size:=(by omega);have hpq:p<q:=(by omega);have HL:Hi (LbE s i 0 q):=h_ (.inl ⟨rfl,by omega,by omega,by rw[HK.u,qae hlt hb,<- hq];omega⟩);clear hq;go_wp2_with (first | (go_at_call 98;refine(q67 _ _ _ k2).mono ?_;rintro e w' ⟨rfl,rfl⟩) | (go_at_call 97;refine(q1j _ _).mono ?_;rintro e w' ⟨rfl,rfl⟩;rw[hb]))
      go_step3
      refine(⟨⟨rfl,q,HL.u,FrE.mk⟩,?_⟩:(_=_/\∃p,LbE s i 0 p/\FrE s i p _)/\muE s 0 _<muE s 0 _);unfold muE;simp[intOf];omega
  . refine⟨_,rfl,?_⟩
    have HK:=h_ k3;clear k3;cases hb:digitB (bt s p)
    . have HL:Hi (LbE s i 4 p):=h_ (.inr (.inr (.inr (.inr ⟨rfl,k2,by rw[HK.u,qaf hb];rfl⟩))))
      go_wp2_with (first | (go_at_call 98;refine(q67 _ _ _ k2).mono ?_;rintro e w' ⟨rfl,rfl⟩) | (go_at_call 95;refine(q4r _ _).mono ?_;rintro e w' ⟨rfl,rfl⟩;rw[hb]))
      go_step3
      refine(⟨⟨rfl,p,HL.u,FrE.mk⟩,?_⟩:(_=_/\∃p,LbE s i 4 p/\FrE s i p _)/\muE s 4 _<muE s 1 _);unfold muE;simp;omega
    . have hlt:p<s.size:=bt_in (p:=digitB) (by decide) hb
      obtain⟨q,hq⟩:=Nq (p+1);have hq':=i_one hq;have hqb:q<=s.size:=(by omega);have hpq:p<q:=(by omega);have HL:Hi (LbE s i 1 q):=h_ (.inr (.inl ⟨rfl,by omega,by omega,by rw[HK.u,qae hlt hb,<- hq];omega⟩));clear hq;go_wp2_with (first | (go_at_call 98;refine(q67 _ _ _ k2).mono ?_;rintro e w' ⟨rfl,rfl⟩) | (go_at_call 95;refine(q4r _ _).mono ?_;rintro e w' ⟨rfl,rfl⟩;rw[hb]))
      go_step3
      refine(⟨⟨rfl,q,HL.u,FrE.mk⟩,?_⟩:(_=_/\∃p,LbE s i 1 p/\FrE s i p _)/\muE s 1 _<muE s 1 _);unfold muE;simp[intOf];omega
  . refine⟨_,rfl,?_⟩
    have HK:=h_ k3;clear k3;obtain⟨q,hq⟩:=Nq (p+1);have hq':=i_one hq;have hpq:p<q:=(by omega);cases hb:tb (bt s p)
    . have hr0:=qaf (s:=s) (k:=p) hb
      rw[hr0,Zq]at HK;obtain⟨x,hx⟩:=Nq (bt s p);rw[hx]at HK hb;by_cases h34:x=34
      . have h34':((x:Int) != 34)=false:=by simp[h34]
        have hlt:p<s.size:=Yv fun hc=>by rw[bt_ge hc]at hx;omega
        have hqb:q<=s.size:=(by omega);have HL:Hi (LbE s i 4 q):=h_ (.inr (.inr (.inr (.inr ⟨rfl,hqb,by rw[HK.u,Yn h34,hq]⟩))));clear hq h34 hr0;go_wp2_with (first | (go_at_call 98;refine(q67 _ _ _ k2).mono ?_;rintro e w' ⟨rfl,rfl⟩;rw[hx]) | (go_at_call 99;refine(q1m _ _).mono ?_;rintro e w' ⟨rfl,rfl⟩;rw[hb]))
        go_step3
        refine(⟨⟨rfl,q,HL.u,FrE.mk⟩,?_⟩:(_=_/\∃p,LbE s i 4 p/\FrE s i p _)/\muE s 4 _<muE s 2 _);unfold muE;simp;omega
      . have h34':((x:Int) != 34)=true:=by simp;omega
        have HL:Hi (tokE s i=i):=h_ (by rw[HK.u,Yi h34]);clear hq h34 hr0;go_wp2_with (first | (go_at_call 98;refine(q67 _ _ _ k2).mono ?_;rintro e w' ⟨rfl,rfl⟩;rw[hx]) | (go_at_call 99;refine(q1m _ _).mono ?_;rintro e w' ⟨rfl,rfl⟩;rw[hb]));simp only[JmpM];go_ret;exact⟨qij (by rw[HL.u]),rfl⟩
    . have hlt:p<s.size:=bt_in (p:=tb) (by decide) hb
      have hqb:q<=s.size:=(by omega);have HL:Hi (LbE s i 2 q):=h_ (.inr (.inr (.inl ⟨rfl,by omega,by omega,by rw[HK.u,qae hlt hb,<- hq,show p+(1+runN tb s (p+1))=p+1+runN tb s (p+1) by omega]⟩)));clear hq;go_wp2_with (first | (go_at_call 98;refine(q67 _ _ _ k2).mono ?_;rintro e w' ⟨rfl,rfl⟩) | (go_at_call 99;refine(q1m _ _).mono ?_;rintro e w' ⟨rfl,rfl⟩;rw[hb]))
      go_step3
      refine(⟨⟨rfl,q,HL.u,FrE.mk⟩,?_⟩:(_=_/\∃p,LbE s i 2 p/\FrE s i p _)/\muE s 2 _<muE s 2 _);unfold muE;simp[intOf];omega
  . refine⟨_,rfl,?_⟩
    have HK:=h_ k3;have k2:i+1<=s.size:=(by omega);obtain⟨x,hx⟩:=Nq (bt s (i+1));rw[hx]at HK;have HB:=h_ (fun w=>q67 s (i+1) w k2);rw[hx]at HB;obtain⟨q,hq⟩:=Nq (i+1);obtain⟨r,hr⟩:=Nq (q+1);have hr':=i_one hr;have hrb:r<=1048577:=(by omega);have HQ:Hi (i+2=r/\i+1=q):=h_ (by omega);rw[hq]at HB;rw[hq];clear k3 hx hq hr k2;by_cases h62:x=62
    . have h62':((x:Int)==62)=true:=by simp[h62]
      have HL:Hi (tokE s i=r):=h_ (by rw[HK.u,Yn (.inl h62)];exact HQ.u.1);clear h62;go_wp2_with fail;refine(HB.u _).mono ?_;rintro e w1 ⟨rfl,rfl⟩;go_wp2_with fail
      try go_step3
      go_wp2_with fail;simp only[JmpM];go_ret;exact⟨qij (by rw[HL.u]),rfl⟩
    . have h62':((x:Int)==62)=false:=Ye.2 (by omega)
      by_cases h61:x=61
      . have h61':((x:Int)==61)=true:=by simp[h61]
        have HL:Hi (tokE s i=r):=h_ (by rw[HK.u,Yn (.inr h61)];exact HQ.u.1);clear h62 h61;go_wp2_with fail;refine(HB.u _).mono ?_;rintro e w1 ⟨rfl,rfl⟩;go_wp2_with fail
        try go_step3
        go_wp2_with fail;simp only[JmpM];go_ret;exact⟨qij (by rw[HL.u]),rfl⟩
      . have h61':((x:Int)==61)=false:=Ye.2 (by omega)
        have HL:Hi (tokE s i=q):=h_ (by rw[HK.u,Yi (by omega)];exact HQ.u.2);clear h62 h61;go_wp2_with fail;refine(HB.u _).mono ?_;rintro e w1 ⟨rfl,rfl⟩;go_wp2_with fail
        try go_step3
        go_wp2_with fail;simp only[JmpM];go_ret;exact⟨qij (by rw[HL.u]),rfl⟩
  . refine⟨_,rfl,?_⟩
    have HL:=h_ k3;clear k3;go_wp2_with fail;simp only[JmpM];go_ret;exact⟨qij (by rw[HL.u]),rfl⟩
theorem q0r (t:ByteArray)(w:World)(h0:0<t.size)(hz:t.size<=1048576)(hp:Pow w)(q1:ErrV "strconv.ErrSyntax" w) (q2:ErrV "strconv.ErrRange" w):Calls Tryz.prog 56 #[.string t] w fun e w'=>e=.returned (.bool (keepsB t))/\Below w.heap.size w w':=by
 obtain⟨kd,nm,tx,ok,hrv⟩:∃kd nm tx ok,rv t=(kd,nm,tx,ok):=⟨_,_,_,_,rfl⟩
 have HRd:=h_ (q30 t w hz hp q1 q2 kd nm tx ok hrv)
 obtain⟨c,hc⟩:=Nq (bt t 0)
 have hck:(t[0]).toNat=c:=by rw[<- hc,bt_lt h0]
 have HK:Hi (keepsB t=if small c=true then decide (t.size<=16) else if digitB c=true∨c=34 then ok else true):=h_ (by unfold keepsB;rw[hc,hrv])
 have h0':(0:Int)<(t.size:Int):=by omega
 clear hp q1 q2 hrv hc
 have HZ:=h_ (bR w.heap.size w)
 cases h1:small c
 case true =>
  rw[h1,Yn rfl]at HK;go_enter Tryz.func56,Tryz.ntmps56;go_wp2_with (go_at_call 94;refine(q34 _ _).mono ?_;rintro e w' ⟨rfl,rfl⟩;rw[h1]);go_ret;exact⟨qdx (by rw[HK.u];exact decide_eq_decide.2 (by omega)),HZ.u⟩
 rw[h1,Yi (by decide)]at HK
 cases h2:digitB c
 case true =>
  rw[h2,Yn (.inl rfl)]at HK;go_enter Tryz.func56,Tryz.ntmps56;go_wp2_with (first | (go_at_call 94;refine(q34 _ _).mono ?_;rintro e w' ⟨rfl,rfl⟩;rw[h1]) | (go_at_call 95;refine(q4r _ _).mono ?_;rintro e w' ⟨rfl,rfl⟩;rw[h2]));refine HRd.u.mono ?_;rintro e W1 ⟨rfl,hb⟩;have HB:=h_ (hb.alloc hb.size (.cells (Ju kd nm tx) 131));clear hb;go_wp2_with fail;go_ret;exact⟨qdx HK.u.symm,HB.u⟩
 rw[h2]at HK
 by_cases h3:c=34
 case pos =>
  have h3':((c:Int)==34)=true:=by simp[h3]
  rw[Yn (.inr h3)]at HK;clear h3;go_enter Tryz.func56,Tryz.ntmps56;go_wp2_with (first | (go_at_call 94;refine(q34 _ _).mono ?_;rintro e w' ⟨rfl,rfl⟩;rw[h1]) | (go_at_call 95;refine(q4r _ _).mono ?_;rintro e w' ⟨rfl,rfl⟩;rw[h2]));refine HRd.u.mono ?_;rintro e W1 ⟨rfl,hb⟩;have HB:=h_ (hb.alloc hb.size (.cells (Ju kd nm tx) 131));clear hb;go_wp2_with fail;go_ret;exact⟨qdx HK.u.symm,HB.u⟩
 have h3':((c:Int)==34)=false:=Ye.2 (by omega)
 rw[Yi (fun h=>by rcases h with h | h;cases h;exact h3 h)]at HK
 clear h3
 go_enter Tryz.func56,Tryz.ntmps56
 go_wp2_with (first | (go_at_call 94;refine(q34 _ _).mono ?_;rintro e w' ⟨rfl,rfl⟩;rw[h1]) | (go_at_call 95;refine(q4r _ _).mono ?_;rintro e w' ⟨rfl,rfl⟩;rw[h2]))
 go_ret
 exact⟨qdx HK.u.symm,HZ.u⟩
def OwnS (w:World)(base:Nat)(v:Value)(l:List ByteArray):Prop:=w.ownsRow base 9 1 v l.length (stV l)
theorem OwnS.keep {w w':World}{base:Nat}{v:Value}{l:List ByteArray}(h:OwnS w base v l)(hb:Below w.heap.size w w'):OwnS w' base v l :=
 World.ownsRow.kept (row:=none) h ⟨hb.os,hb.tape,hb.output,hb.size,fun k hk _=>hb.block k hk⟩ (Classical.em _)
theorem OwnS.strs {w:World}{base:Nat}{v:Value}{l:List ByteArray}(h:OwnS w base v l):∃a c,v=.slice a l.length c/\l.length<=c/\Strs w a l:=by
 rcases h.2 with ⟨e,h0⟩ | ⟨g,cap,cur,e,hg,hq,h4,h5,h6,h7⟩
 . exact⟨.none,0,by rw[e,h0],by omega,fun k hk=>by omega⟩
 . have hb:Blk w g 9 cur.toList:=by
    show w.heap[g]? = _;rw[hq]
   refine⟨some ⟨g,0,.none⟩,cap,e,h4,fun k hk=>⟨g,0,rfl,hb.lt,?_⟩⟩;have h8:(cur.toList.take (l.length*1))[k]? = some (.string l[k]):=by rw[h7];simp[stV,hk]
   rw[Vi (by omega)]at h8;rw[Z3,hb.cell];exact h8
theorem q5v {ops:Array Oper}{rest:List Oper}{o:Oper}{a:Act}{Q:Exit->Act->World->Prop}{w:World}(hgd:o.guard=.none)(s x:Operand)
 (ho:o.op=.call { callee:=.builtin .append,args:=#[s,x],argTypes:=#[22,22] }) {base:Nat} {v:Value} {l:List ByteArray} (hs:a.eval s=v) (hown:OwnS w base v l)
 {g:Nat} {t:ByteArray} (hx:a.eval x=.slice (some ⟨g,0,.none⟩) 1 1) (hc:Blk w g 9 [.string t]) (hl:l.length+1<=2097152) (hbase:base<=w.heap.size)
 (h:∀v' w',OwnS w' base v' (l++[t])->Below base w w'->wpList Tryz.prog ops Q rest (a.put o.dst v') w'):wpList Tryz.prog ops Q (o :: rest) a w:=by
 obtain⟨i0,hi,hz0,hz1,hz2⟩:=info_parts qcl
 refine wpList_append_own w hgd s x 22 ho base 9 i0 _ 1 16 Tryz.underlying22 hi hz0 hz1 hz2 rfl (by omega) _ _ _ hs hown ⟨g,0,.none⟩ 1 1 [.string t] hx rfl (fun j v hj=>by rw[show(⟨g,0,.none⟩:Addr).add j=⟨g,j,.none⟩ by simp[Addr.add];try exact fun h=>h.symm];exact(hc.cell j).trans hj) (by simp[Value.oneCell']) (by unfold maxLen;omega) (by omega) hbase ?_
 intro v' W9 ho hgr _
 refine h v' W9 ?_ ((bR base w).grown hgr hbase (fun q e=>q7l hown e))
 unfold OwnS
 rw[Yf,show stV (l++[t])=stV l++[.string t] by simp[stV]]
 exact ho
def ScnA (s:ByteArray)(w:World)(base:Nat)(v:Value)(z:Int):Prop:=match lxF s s.size 0 [] with
 | .inl i=>z=(i:Nat)/\v=.slice none 0 0
 | .inr ts=>z = -1/\OwnS w base v ts/\ts.length<=s.size/\∀t,t∈ts->VT t/\t.size<=s.size
theorem qe0 (s:ByteArray)(w:World)(hs:s.size<=1048576)(hp:Pow w)(q1:ErrV "strconv.ErrSyntax" w) (q2:ErrV "strconv.ErrRange" w) :
 Calls Tryz.prog 17 #[.string s] w fun r w'=>∃v z,r=.returned (.tuple #[v,Ya z])/\ScnA s w' w.heap.size v z/\Below w.heap.size w w':=by
 have HP:=h_ hp;have HQ1:=h_ q1;have HQ2:=h_ q2
 clear hp q1 q2
 go_enter Tryz.func17,Tryz.ntmps17
 go_wp2_with fail
 go_loopw [4,5,6] (fun v i _ wr=>∃(k:Nat) (l:List (ByteArray × Nat)),i=Ya k/\LxI s k l/\OwnS wr w.heap.size v (l.map (·.1))/\Below w.heap.size w wr) (fun _ i _ _=>s.size - (intOf i).toNat)
 case atStart=>exact⟨0,[],rfl,⟨nZ _,nZ _,LxAt.start s,fun t ht=>by simp at ht⟩,⟨rfl,.inl ⟨rfl,rfl⟩⟩,bR _ _⟩
 case round =>
  obtain⟨k,l,rfl,hi,ho,hb⟩:=hrel;have HI:=h_ hi;have HO:=h_ ho;have HB:=h_ hb;have HLn:Hi ((l.map (·.1)).length<=1048576):=h_ (by rw[Zf];have:=hi.hn;have:=hi.hk;omega);have hps:=HP.u.mono hb;have hq1:=HQ1.u.mono hb;have hq2:=HQ2.u.mono hb;have HP2:=h_ hps;have HQ3:=h_ hq1;have HQ4:=h_ hq2;clear hi ho hb hps hq1 hq2;by_cases hlt:k<s.size
  case neg =>
   have hlt':=i_nlt hlt;have HX:Hi (ScnA s wr w.heap.size u4 (-1)):=h_ (by
    have h:=HI.u;unfold ScnA;rw[h.at'.done (by omega)];exact⟨rfl,HO.u,by rw[Zf];have:=h.hn;have:=h.hk;omega,h.ok⟩)
   go_wp2_with fail
   go_ret2
   exact⟨_,_,rfl,HX.u,HB.u⟩
  have hlt':=i_lt hlt;obtain⟨c,hc⟩:=Nq (bt s k);have hck:(s[k]).toNat=c:=by rw[<- hc,bt_lt hlt]
  have HSk:=h_ (HI.u.skip hlt);have HNx:=h_ (fun t e=>HI.u.next (t:=t) (e:=e) hlt);have HBd:Hi (wsB c=false->tk s k=none->∀w v,ScnA s w v Yb (k:Nat)):=h_ fun h1 h2 w v=>by
   unfold ScnA;rw[HI.u.at'.bad hlt (by rw[hc];exact h1) h2];exact⟨rfl,rfl⟩
  rw[hc]at HSk HNx;have HTE:=h_ (q3x s k wr hs hlt);have hte:=qjf hlt;clear hc;obtain⟨k1,hk1⟩:=Nq (k+1);have hk1':=i_one hk1;have hkk:k<k1:=by omega
  rw[hk1]at HSk;by_cases h32:c=32
  . have h32':((c:Int)==32)=true:=by simp[h32]
    have HX:=h_ (HSk.u (by subst h32;rfl));clear h32 hk1;go_wp2_with fail;go_roundw
    case rel=>first | exact⟨k1,l,rfl,HX.u,HO.u,HB.u⟩ | ((repeat apply Exists.intro);exact⟨⟨k1,l,rfl,HX.u,HO.u,HB.u⟩,rfl⟩)
    case measure=>simp[intOf];exact Zx hlt hkk
  have h32':((c:Int)==32)=false:=Ye.2 (by omega);by_cases h10:c=10
  . have h10':((c:Int)==10)=true:=by simp[h10]
    have HX:=h_ (HSk.u (by subst h10;rfl));clear h32 h10 hk1;go_wp2_with fail;go_roundw
    case rel=>first | exact⟨k1,l,rfl,HX.u,HO.u,HB.u⟩ | ((repeat apply Exists.intro);exact⟨⟨k1,l,rfl,HX.u,HO.u,HB.u⟩,rfl⟩)
    case measure=>simp[intOf];exact Zx hlt hkk
  have h10':((c:Int)==10)=false:=Ye.2 (by omega);have hws:wsB c=false:=by unfold wsB;simp;omega
  replace HNx:=h_ (fun t e=>HNx.u t e hws);replace HBd:=h_ (HBd.u hws);clear HSk h32 h10 hws hk1 hk1' hkk;obtain⟨e,he⟩:=Nq (tokE s k);have HTk:Hi (tk s k=if e=k then none else if keepsB (s.extract k e)=true then some (s.extract k e,e) else none):=h_ (by unfold tk;rw[he]);rw[he]at HTE hte;clear he;by_cases hek:e=k
  . have hek':((e:Int)==(k:Int))=true:=by simp[hek]
    have HBad:=h_ (HBd.u (by rw[HTk.u,Yn hek]));clear hek;go_wp2_with (go_at_call 55;refine HTE.u.mono ?_;rintro e w' ⟨rfl,rfl⟩)
    go_ret2
    exact⟨_,_,rfl,HBad.u _ _,HB.u⟩
  have hek':((e:Int)==(k:Int))=false:=Ye.2 (by omega);rw[Yi hek]at HTk;have hke:k<e:=by omega
  have hsub:=qir s (show k<=e by omega) hte.2;have htz0:0<(s.extract k e).size:=by simp;omega
  have htz:(s.extract k e).size<=1048576:=by simp;omega
  obtain⟨t,ht⟩:=Nq (s.extract k e);rw[ht]at HTk hsub htz htz0;have HKp:=h_ (q0r t wr htz0 htz HP2.u HQ3.u HQ4.u);clear ht hek hte;cases hkp:keepsB t
  . rw[hkp,Yi (by decide)]at HTk
    rw[hkp]at HKp;have HBad:=h_ (HBd.u HTk.u);clear hkp;go_wp2_with (go_at_call 55;refine HTE.u.mono ?_;rintro e w' ⟨rfl,rfl⟩);refine HKp.u.mono ?_;rintro e9 W2 ⟨rfl,hb⟩;replace HB:=mT HB hb;clear hb;go_wp2_with fail
    go_ret2
    exact⟨_,_,rfl,HBad.u _ _,HB.u⟩
  . rw[hkp,Yn rfl]at HTk
    rw[hkp]at HKp;have HX:=h_ (HNx.u t e HTk.u);clear hkp HBd HNx;go_wp2_with (go_at_call 55;refine HTE.u.mono ?_;rintro e w' ⟨rfl,rfl⟩);refine HKp.u.mono ?_;rintro e9 W2 ⟨rfl,hb⟩;replace HB:=mT HB hb;replace HO:=h_ (HO.u.keep hb);clear hb;have HN:Hi (Blk _ _ 9 [.string t]):=h_ (Blk.new W2 9 #[.string t]);have HS:=h_ ((bR W2.heap.size W2).alloc (nR _) (.cells #[.string t] 9));go_wp2_with (at_builtin;refine q5v (t:=t) rfl _ _ rfl rfl (HO.u.keep HS.u) rfl HN.u (by have:=HLn.u;omega) (Yt HB.u.size HS.u.size) ?_);intro v' W9 ho hb9;have HO9:Hi (OwnS W9 w.heap.size v' ((l++[(t,k)]).map (·.1))):=h_ (by rw[Zt];exact ho);have HB9:=h_ (HB.u.trans ((HS.u.mono HB.u.size).trans hb9));clear ho hb9;go_wp2_with fail;go_roundw
    case rel=>first | exact⟨e,_,rfl,HX.u,HO9.u,HB9.u⟩ | ((repeat apply Exists.intro);exact⟨⟨e,_,rfl,HX.u,HO9.u,HB9.u⟩,rfl⟩)
    case measure=>simp[intOf];exact Zx hlt hke
end Go.Proofs.YtfmammdgehbjhaaGreatDoor
