import Derived.Test.YtfmammdgehbjhaaGreatDoorW14
set_option maxRecDepth 100000
set_option maxHeartbeats 64000000
namespace Go.Proofs.YtfmammdgehbjhaaGreatDoor
open Go
theorem cls_of {t:ByteArray}{c:Nat}(h:bt t 0=c):(small c=true->cls t=1)/\(digitB c=true->small c=false->cls t=2)/\(c=34->cls t=3)/\(small c=false->digitB c=false->c≠34->cls t=4):=by
 unfold cls
 rw[h]
 refine⟨fun a=>by rw[Yn a],fun a b=>by rw[b,Yi (by decide),Yn a],fun a=>by subst a;decide,fun a b d=>by rw[a,b,Yi (by decide),Yi (by decide),Yi d]⟩
theorem dig_ns {c:Nat}(h:digitB c=true):small c=false:=by
 unfold digitB at h;unfold small
 simp only[Yj]at h
 simp;omega
theorem ext_bt {s:ByteArray}{i e:Nat}(he:e<=s.size)(hi:i<e):bt (s.extract i e) 0=bt s i:=bt_ext he (by omega)
theorem qje {s:ByteArray}{i n:Nat}(hi:i<s.size)(h:small (bt s i)=true)(hn:runN nameB s i=n):1<=n/\i+n<=s.size/\cls (s.extract i (i+n))=1/\tk s i=(if n<=16 then some (s.extract i (i+n),i+n) else none):=by
 have h1:=qae hi (qe8 h)
 have h2:=qio nameB s i
 have hb:bt (s.extract i (i+n)) 0=bt s i:=ext_bt (by omega) (by omega)
 refine⟨by omega,by omega,(cls_of hb).1 h,?_⟩
 have ht:tokE s i=i+n:=by unfold tokE;rw[Yn h];omega
 have hz:(s.extract i (i+n)).size=n:=by simp;omega
 unfold tk
 rw[ht,Yi (by omega)]
 unfold keepsB
 rw[hb,Yn h,hz]
 by_cases hq:n<=16
 . rw[Yn hq,Yn (Yh hq)]
 . rw[Yi hq,Yi (by simpa using hq)]
theorem rd_rv {t:ByteArray}(h:cls t=2):(rv t).2.2.2=(readDec t.data.toList).isSome:=by
 rw[Zj]
 constructor
 . intro hr
   obtain⟨n,hn,-⟩:=rv_int h hr;rw[hn];rfl
 . intro hr
   unfold rv;split
   . rfl
   . split
     . rfl
     . split
       . rfl
       . cases hq:readDec t.data.toList with
         | none=>rw[hq]at hr;cases hr
         | some n=>rfl
theorem qcq {t:ByteArray}(h:cls t=2∨cls t=3):keepsB t=(rv t).2.2.2:=by
 unfold keepsB
 unfold cls at h
 split
 . rename_i hq
   rw[Yn hq]at h;omega
 . rename_i hq
   rw[Yi hq]at h;split
   . rfl
   . rename_i hd
     rw[Yi (fun e=>hd (.inl e)),Yi (fun e=>hd (.inr e))]at h;omega
theorem tk_num {s:ByteArray}{i n:Nat}(hi:i<s.size)(h:digitB (bt s i)=true)(hn:runN digitB s i=n):1<=n/\i+n<=s.size/\cls (s.extract i (i+n))=2/\tk s i=(if (readDec (s.extract i (i+n)).data.toList).isSome=true then some (s.extract i (i+n),i+n) else none):=by
 have h1:=qae hi h
 have h2:=qio digitB s i
 have hs:=dig_ns h
 have hb:bt (s.extract i (i+n)) 0=bt s i:=ext_bt (by omega) (by omega)
 have hc:=(cls_of hb).2.1 h hs
 refine⟨by omega,by omega,hc,?_⟩
 have ht:tokE s i=i+n:=by unfold tokE;rw[hs,Yi (by decide),Yn h];omega
 unfold tk
 rw[ht,Yi (by omega)]
 rw[qcq (.inl hc),rd_rv hc]
theorem qc5 (s:ByteArray)(i j:Nat):(s.extract i j).data.toList=(s.data.toList.take j).drop i:=by
 rw[ByteArray.data_extract,Array.toList_extract]
 simp[List.extract,List.drop_take]
theorem qhh {s:ByteArray}{i n:Nat}(h:i+1+n<s.size):mid (s.extract i (i+n+2))=s.extract (i+1) (i+1+n):=by
 have hz:(s.extract i (i+n+2)).size=n+2:=by simp;omega
 unfold mid
 rw[hz]
 refine ba_ext ?_
 rw[qc5,qc5,qc5,show n+2 - 1=n+1 by omega,List.drop_take,List.drop_take,List.drop_take,List.take_take,List.drop_take,Vv]
 congr 1
 omega
theorem q7u (l:List UInt8){n:Nat}(hl:l.length=n)(h2:2<=n)(g0:l[0]? = some 34)(g1:l[n - 1]? = some 34):[34]++(l.take (n - 1)).drop 1++[34]=l:=by
 have e1:l=l.take (n - 1)++[34]:=by
  have:=Yq (show n - 1<l.length by omega);rw[show n - 1+1=l.length by omega,Zl,(Z6.1 g1).2]at this;exact this
 have e2:l.take (n - 1)=34 :: (l.take (n - 1)).drop 1:=by
  have hlt:0<(l.take (n - 1)).length:=by rw[Yu];omega
  have:=Y8 hlt;rw[Z5,Ve,(Z6.1 g0).2]at this;exact this
 generalize l.take (n - 1)=m at *
 rw[e1]
 conv=>rhs;rw[e2]
 simp
theorem qa9 {t:ByteArray}(h2:2<=t.size)(h0:bt t 0=34)(h1:bt t (t.size - 1)=34):⟨#[34]⟩++mid t++⟨#[34]⟩=t:=by
 refine ba_ext ?_
 rw[Zu,Zu,Vq,Vq]
 unfold mid
 rw[qc5]
 rw[bt_lt (by omega)]at h0 h1
 have hl:t.data.toList.length=t.size:=by simp
 have g0:t.data.toList[0]? = some 34:=by rw[Yk (by omega)];exact congrArg some (UInt8.toNat_inj.1 h0)
 have g1:t.data.toList[t.size - 1]? = some 34:=by rw[Yk (by omega)];exact congrArg some (UInt8.toNat_inj.1 h1)
 exact q7u _ hl h2 g0 g1
theorem qag {p:Nat->Bool}{s:ByteArray}{i j:Nat}(h:j<runN p s i):p (bt s (i+j))=true:=by
 have hl:=qio p s i
 have hlt:i+j<s.size:=by omega
 unfold runN at h
 have hm:=Ys (l:=(s.data.toList.drop i).takeWhile fun c=>p c.toNat) h
 have:=List.all_takeWhile (p:=fun c:UInt8=>p c.toNat) (l:=s.data.toList.drop i)
 rw[Zh]at this
 have h2:=this _ hm
 rw[bt_lt hlt]
 have e:((s.data.toList.drop i).takeWhile fun c=>p c.toNat)[j]=s[i+j]:=by
  rw[(List.takeWhile_prefix _).getElem h,Vf];rfl
 rw[e]at h2
 exact h2
theorem tk_txt {s:ByteArray}{i n:Nat}(h:bt s i=34)(hn:runN tb s (i+1)=n):(¬ (i+1+n<s.size/\bt s (i+1+n)=34/\n<=1000)->tk s i=none)/\(i+1+n<s.size->bt s (i+1+n)=34->n<=1000->tk s i=some (s.extract i (i+n+2),i+n+2)/\cls (s.extract i (i+n+2))=3/\txt (s.extract i (i+n+2))=s.extract (i+1) (i+1+n)):=by
 have hsm:small (bt s i)=false:=by rw[h];decide
 have hdg:digitB (bt s i)=false:=by rw[h];decide
 have ht:tokE s i=if bt s (i+1+n)=34 then i+n+2 else i:=by
  unfold tokE;rw[hsm,hdg,Yi (by decide),Yi (by decide),Yn h,hn];split <;> omega
 by_cases hq:bt s (i+1+n)=34
 . rw[Yn hq]at ht
   have hlt:i+1+n<s.size:=Classical.byContradiction fun hc=>by rw[bt_ge hc]at hq;cases hq
   have hb:bt (s.extract i (i+n+2)) 0=bt s i:=ext_bt (by omega) (by omega);have hb1:bt (s.extract i (i+n+2)) (n+1)=bt s (i+(n+1)):=bt_ext (by omega) (by omega);have hm:=qhh hlt;have hz:(s.extract i (i+n+2)).size=n+2:=by simp;omega
   have hc:cls (s.extract i (i+n+2))=3:=(cls_of hb).2.2.1 h;have hby:∀j,j<n->tb (bt (s.extract (i+1) (i+1+n)) j)=true:=fun j hj=>by
    rw[bt_ext (by omega) (by omega)];exact qag (p:=tb) (s:=s) (i:=i+1) (j:=j) (by omega)
   have hzm:(s.extract (i+1) (i+1+n)).size=n:=by simp;omega
   have htx:txt (s.extract i (i+n+2))=s.extract (i+1) (i+1+n):=by unfold txt;rw[Yn hc,hm]
   have htk:tk s i=if keepsB (s.extract i (i+n+2))=true then some (s.extract i (i+n+2),i+n+2) else none:=by
    unfold tk;rw[ht,Yi (by omega)]
   rw[qcq (.inr hc)]at htk;rw[show i+(n+1)=i+1+n by omega,hq]at hb1;rw[h]at hb;generalize s.extract (i+1) (i+1+n)=M at *;generalize s.extract i (i+n+2)=t at *;have hok:n<=1000->(rv t).2.2.2=true:=fun hl=>by
    have hw:okText (mid t)=true:=by
     rw[hm];refine q7k (by omega) fun j hj=>?_;have:=hby j (by omega);rw[bt_lt hj]at this;exact this
    have hqm:=qa9 (by omega) hb (by rw[hz];exact hb1);unfold rv;split
    . rfl
    . split
      . rfl
      . split
        . rfl
        . split
          . rfl
          . rw[Yn ⟨by omega,hw,hqm⟩]
   refine⟨fun hno=>?_,fun _ _ hl=>⟨by rw[htk,Yn (hok hl)],hc,htx⟩⟩;rw[htk,Yi];intro hr;have hw:=(q7j.1 (rv_txt hc hr).2).1;rw[hm,hzm]at hw;exact hno ⟨hlt,hq,hw⟩
 . rw[Yi hq]at ht
   refine⟨fun _=>by unfold tk;rw[ht,Yn rfl],fun _ h2=>absurd h2 hq⟩
theorem qja {t:ByteArray}(h:t.size=2):symS t=true ↔ bt t 0=60/\(bt t 1=62∨bt t 1=61):=by
 rw[qeg]
 constructor
 . intro hm
   unfold syms at hm;simp only[Y9,Z1,or_false]at hm;rcases hm with e | e | e | e | e | e | e | e | e | e | e | e | e | e <;> subst e
   all_goals first | exact absurd h (by decide) | decide
 . rintro⟨h0,h1 | h1⟩
   . rw[bt_two h (c:=60) (d:=62) h0 h1];simp[syms]
   . rw[bt_two h (c:=60) (d:=61) h0 h1];simp[syms]
theorem qj8 {t:ByteArray}(h:t.size=1):symS t=true ↔ symB (bt t 0)=true∨bt t 0=60:=by
 rw[qeg]
 constructor
 . intro hm
   unfold syms at hm;simp only[Y9,Z1,or_false]at hm;rcases hm with e | e | e | e | e | e | e | e | e | e | e | e | e | e <;> subst e
   all_goals first | exact absurd h (by decide) | decide
 . rintro (h0 | h0)
   . have hs:=Ze h0
     rcases hs with e | e | e | e | e | e | e | e | e | e | e
     . rw[bt_one h (c:=40) e];simp[syms]
     . rw[bt_one h (c:=41) e];simp[syms]
     . rw[bt_one h (c:=44) e];simp[syms]
     . rw[bt_one h (c:=59) e];simp[syms]
     . rw[bt_one h (c:=43) e];simp[syms]
     . rw[bt_one h (c:=45) e];simp[syms]
     . rw[bt_one h (c:=42) e];simp[syms]
     . rw[bt_one h (c:=47) e];simp[syms]
     . rw[bt_one h (c:=37) e];simp[syms]
     . rw[bt_one h (c:=38) e];simp[syms]
     . rw[bt_one h (c:=61) e];simp[syms]
   . rw[bt_one h (c:=60) h0];simp[syms]
theorem q9d {t:ByteArray}(h:cls t=4):keepsB t=true:=by
 unfold keepsB
 unfold cls at h
 split
 . rename_i hq
   rw[Yn hq]at h;omega
 . rename_i hq
   rw[Yi hq]at h;split
   . rename_i hd
     rcases hd with hd | hd
     . rw[Yn hd]at h;omega
     . rw[hd]at h
       exact absurd h (by decide)
   . rfl
theorem tk_sym {s:ByteArray}{i:Nat}(hi:i<s.size)(h1:small (bt s i)=false)(h2:digitB (bt s i)=false)(h3:bt s i≠34) :
 (i+2<=s.size->symS (s.extract i (i+2))=true->tk s i=some (s.extract i (i+2),i+2)/\cls (s.extract i (i+2))=4) /\
 (¬ (i+2<=s.size/\symS (s.extract i (i+2))=true)->symS (s.extract i (i+1))=true->tk s i=some (s.extract i (i+1),i+1)/\cls (s.extract i (i+1))=4) /\
 (¬ (i+2<=s.size/\symS (s.extract i (i+2))=true)->symS (s.extract i (i+1))=false->tk s i=none):=by
 have hz1:(s.extract i (i+1)).size=1:=by simp;omega
 have hb1:bt (s.extract i (i+1)) 0=bt s i:=ext_bt (by omega) (by omega)
 have hc1:cls (s.extract i (i+1))=4:=(cls_of hb1).2.2.2 h1 h2 h3
 have ht:tokE s i=if bt s i=60 then (if bt s (i+1)=62∨bt s (i+1)=61 then i+2 else i+1) else if symB (bt s i)=true then i+1 else i:=by
  unfold tokE;rw[h1,h2,Yi (by decide),Yi (by decide),Yi h3]
 have two:i+2<=s.size->(symS (s.extract i (i+2))=true ↔ bt s i=60/\(bt s (i+1)=62∨bt s (i+1)=61)):=fun hq=>by
  rw[qja (by simp;omega),ext_bt hq (by omega),bt_ext hq (by omega)]
 have one:symS (s.extract i (i+1))=true ↔ symB (bt s i)=true∨bt s i=60:=by rw[qj8 hz1,hb1]
 have no2:¬ (i+2<=s.size/\symS (s.extract i (i+2))=true)->¬ (bt s i=60/\(bt s (i+1)=62∨bt s (i+1)=61)):=fun hn hq=>by
  have hlt:i+1<s.size:=Classical.byContradiction fun hc=>by rw[bt_ge hc]at hq;omega
  exact hn ⟨by omega,(two (by omega)).2 hq⟩
 refine⟨fun hq hs=>?_,fun hn hs=>?_,fun hn hs=>?_⟩
 . obtain⟨g1,g2⟩:=(two hq).1 hs
   have hb2:bt (s.extract i (i+2)) 0=bt s i:=ext_bt hq (by omega);have hc2:=(cls_of hb2).2.2.2 h1 h2 h3;rw[Yn g1,Yn g2]at ht;exact⟨by unfold tk;rw[ht,Yi (by omega),Yn (q9d hc2)],hc2⟩
 . have hno:=no2 hn
   have e:tokE s i=i+1:=by
    rw[ht];by_cases g:bt s i=60
    . rw[Yn g,Yi (fun h=>hno ⟨g,h⟩)]
    . rw[Yi g,Yn ((one.1 hs).resolve_right g)]
   exact⟨by unfold tk;rw[e,Yi (by omega),Yn (q9d hc1)],hc1⟩
 . have hno:¬ (symB (bt s i)=true∨bt s i=60):=fun h=>by rw[one.2 h]at hs;cases hs
   have e:tokE s i=i:=by rw[ht,Yi (fun h=>hno (.inr h)),Yi (fun h=>hno (.inl h))]
   unfold tk;rw[e,Yn rfl]
end Go.Proofs.YtfmammdgehbjhaaGreatDoor
namespace Go.Proofs.YtfmammdgehbjhaaGreatDoor
open Go Go.RowKit
def tC (t:ByteArray × Nat):List Value:=[.int .i64 (cls t.1:Nat),.string (txt t.1),.int .i64 (t.2:Nat)]
def tokV (l:List (ByteArray × Nat)):List Value:=l.flatMap tC
theorem qet (l r:List (ByteArray × Nat)):tokV (l++r)=tokV l++tokV r:=by simp[tokV]
theorem qeu {l:List (ByteArray × Nat)}{k p:Nat}(hk:k<l.length)(hp:p<3):(tokV l)[k*3+p]? = (tC l[k])[p]?:=by
 induction l generalizing k with
 | nil=>cases hk
 | cons x r ih =>
  cases k with
  | zero =>
   rw[show tokV (x :: r)=tC x++tokV r from rfl,Vm,Z3,Zk (by simp[tC];omega)];rfl
  | succ k =>
   rw[show tokV (x :: r)=tC x++tokV r from rfl,Zn (by simp[tC];omega)];have:=ih (k:=k) (by simpa using hk);rw[show(k+1)*3+p - (tC x).length=k*3+p by simp[tC];omega];simpa using this
def OwnT (w:World)(base:Nat)(v:Value)(l:List (ByteArray × Nat)):Prop:=w.ownsRow base 41 3 v l.length (tokV l)
theorem OwnT.keep {w w':World}{base:Nat}{v:Value}{l:List (ByteArray × Nat)}(h:OwnT w base v l)(hb:Below w.heap.size w w'):OwnT w' base v l :=
 World.ownsRow.kept (row:=none) h ⟨hb.os,hb.tape,hb.output,hb.size,fun k hk _=>hb.block k hk⟩ (Classical.em _)
theorem OwnT.none (w:World):OwnT (w.alloc (.cells #[] 41)) w.heap.size (.slice (some ⟨w.heap.size,0,.none⟩) 0 0) [] :=
 ⟨rfl,.inr ⟨w.heap.size,0,#[],rfl,nR _,heap_alloc_new w (.cells #[] 41),nR _,nZ _,rfl,rfl⟩⟩
theorem OwnT.toks {w:World}{base:Nat}{v:Value}{l:List (ByteArray × Nat)}(h:OwnT w base v l):∃a c,v=.slice a (l.map (·.1)).length c/\l.length<=c/\Tks w a (l.map (·.1)):=by
 rw[Zf]
 rcases h.2 with ⟨e,h0⟩ | ⟨g,cap,cur,e,hg,hq,h4,h5,h6,h7⟩
 . exact⟨.none,0,by rw[e,h0],by omega,fun k hk=>by rw[Zf]at hk;omega⟩
 . have hb:Blk w g 41 cur.toList:=by
    show w.heap[g]? = _;rw[hq]
   refine⟨some ⟨g,0,.none⟩,cap,e,h4,fun k hk=>?_⟩;rw[Zf]at hk;have hc:∀p,p<3->w.cell? ⟨g,k*3+p,.none⟩=(tC l[k])[p]?:=fun p hp=>by
    rw[hb.cell,<- qeu hk hp,<- h7,Vi (by omega)]
   refine⟨g,0,(l[k].2:Nat),rfl,?_⟩;rw[Z3,List.getElem_map];exact⟨hb.lt,hc 0 (by omega),hc 1 (by omega),hc 2 (by omega)⟩
theorem qgs:(Tryz.prog.info? 41).map (fun i=>(i.zero,i.size,i.bytes))=some (some (.agg #[Ya 0,Yc,Ya 0]),3,32):=by kernel_rfl
theorem q5w {ops:Array Oper}{rest:List Oper}{o:Oper}{a:Act}{Q:Exit->Act->World->Prop}{w:World}(hgd:o.guard=.none)(s x:Operand)
 (ho:o.op=.call { callee:=.builtin .append,args:=#[s,x],argTypes:=#[36,36] }) {base:Nat} {v:Value} {l:List (ByteArray × Nat)} (hs:a.eval s=v) (hown:OwnT w base v l)
 {g:Nat} {n:ByteArray × Nat} (hx:a.eval x=.slice (some ⟨g,0,.none⟩) 1 1) (hc:Blk w g 41 (tC n)) (hl:l.length+1<=2097152) (hbase:base<=w.heap.size)
 (h:∀v' w',OwnT w' base v' (l++[n])->Below base w w'->wpList Tryz.prog ops Q rest (a.put o.dst v') w'):wpList Tryz.prog ops Q (o :: rest) a w:=by
 obtain⟨i0,hi,hz0,hz1,hz2⟩:=info_parts qgs
 refine wpList_append_own w hgd s x 36 ho base 41 i0 _ 3 32 Tryz.underlying36 hi hz0 hz1 hz2 rfl (by omega) _ _ _ hs hown ⟨g,0,.none⟩ 1 1 (tC n) hx rfl (fun j v hj=>by rw[show(⟨g,0,.none⟩:Addr).add j=⟨g,j,.none⟩ by simp[Addr.add];try exact fun h=>h.symm];exact(hc.cell j).trans hj) (by simp[tC,Value.oneCell']) (by unfold maxLen;omega) (by omega) hbase ?_
 intro v' W9 ho hgr _
 refine h v' W9 ?_ ((bR base w).grown hgr hbase (fun q e=>q7l hown e))
 unfold OwnT
 rw[qet,Yf]
 simpa [tokV] using ho
theorem qir (s:ByteArray){i j:Nat}(h1:i<=j)(h2:j<=s.size)(w:World):(Instr.slice 9 (.string s) (some (Ya (i:Nat))) (some (Ya (j:Nat))) none).run Tryz.prog w=.ok (.string (s.extract i j)) w:=by
 rw[run_slice_string w 9 s .i64 .i64 _ _ Tryz.underlying9 (by omega) (by omega) (by omega),show((i:Int)).toNat=i by omega,show((j:Int)).toNat=j by omega]
structure LxI (s:ByteArray)(k:Nat)(l:List (ByteArray × Nat)):Prop where
 hk:k<=s.size
 hn:l.length<=k
 at':LxAt s k (l.map (·.1))
 ok:∀t,t∈l.map (·.1)->VT t/\t.size<=s.size
theorem LxI.skip {s:ByteArray}{k:Nat}{l:List (ByteArray × Nat)}(h:LxI s k l)(hk:k<s.size)(hw:wsB (bt s k)=true):LxI s (k+1) l :=
 ⟨by omega,by have:=h.hn;omega,h.at'.skip hk hw,h.ok⟩
theorem LxI.next {s:ByteArray}{k e:Nat}{l:List (ByteArray × Nat)}{t:ByteArray}(h:LxI s k l)(hk:k<s.size)(hw:wsB (bt s k)=false)(ht:tk s k=some (t,e)):LxI s e (l++[(t,k)]):=by
 obtain⟨h1,h2,h3,h4,h5⟩:=qjd hk ht
 have:=h.hn
 refine⟨h2,by simp;omega,by rw[Zt];exact h.at'.next hk hw ht h1,fun x hx=>?_⟩
 rw[Zt,Zg]at hx
 rcases hx with hx | hx
 . exact h.ok x hx
 . simp at hx
   subst hx;exact⟨tk_vt hk ht,by rw[h4];simp;omega⟩
def LexA (s:ByteArray)(w:World)(base:Nat)(v:Value)(z:Int):Prop:=match lxF s s.size 0 [] with
 | .inl i=>z=(i:Nat)
 | .inr ts=>z = -1/\∃l,OwnT w base v l/\l.map (·.1)=ts/\ts.length<=s.size/\∀t,t∈ts->VT t/\t.size<=s.size
theorem LxI.bad {s:ByteArray}{k:Nat}{l:List (ByteArray × Nat)}(h:LxI s k l)(hk:k<s.size)(hw:wsB (bt s k)=false)(ht:tk s k=none)(w:World)(base:Nat)(v:Value):LexA s w base v (k:Nat):=by
 unfold LexA
 rw[h.at'.bad hk hw ht]
theorem LxI.done {s:ByteArray}{k:Nat}{l:List (ByteArray × Nat)}(h:LxI s k l)(hk:¬ k<s.size){w:World}{base:Nat}{v:Value}(ho:OwnT w base v l):LexA s w base v (-1):=by
 unfold LexA
 rw[h.at'.done (by omega)]
 exact⟨rfl,l,ho,rfl,by rw[Zf];have:=h.hn;have:=h.hk;omega,h.ok⟩
theorem Gr.len {X:Lx ByteArray Nx}{l n:Nat}{ts:List ByteArray}{e:List Nx}(h:Gr X l n ts e):e.length<=ts.length:=by
 induction h with
 | up _ _ _ ih=>exact ih
 | bin _ _ _ _ _ _ _ iha ihb=>simp only[Yf,Yl,Yw];omega
 | cmp _ _ _ _ iha ihb=>simp only[Yf,Yl,Yw];omega
 | pre _ _ ih=>simp only[Yf,Yl,Yw];omega
 | one _=>simp
 | par _ _ _ ih=>simp only[Yf,Yl,Yw];omega
 | call _ _ _ _ ih=>simp only[Yf,Yl,Yw];omega
 | arg _ ih=>exact ih
 | args _ _ _ iha ihb=>simp only[Yf,Yl];omega
def cutA (a:Option Addr)(lo cap s:Nat):Option Addr:=if cap=lo then a else a.map (·.add (lo*s))
theorem TkOk.cut {l:List ByteArray}(h:TkOk l)(lo hi:Nat):TkOk ((l.take hi).drop lo):=fun t ht=>h t (Zw (Vl ht))
theorem qg1 {l:List ByteArray}{lo hi:Nat}(h:hi<=l.length):((l.take hi).drop lo).length=hi - lo:=by rw[Vc,Yu];omega
theorem Tks.cut {w:World}{a:Option Addr}{l:List ByteArray}(h:Tks w a l){lo hi cap:Nat}(hh:hi<=l.length)(hc:l.length<=cap):Tks w (cutA a lo cap 3) ((l.take hi).drop lo):=fun k hk=>by
 rw[qg1 hh]at hk
 obtain⟨b,o,p,rfl,ht⟩:=h (lo+k) (by omega)
 refine⟨b,o+lo*3,p,?_,?_⟩
 . unfold cutA
   rw[Yi (by omega)];simp[Addr.add]
 . rw[Vf,Ve]
   rw[show o+lo*3+k*3=o+(lo+k)*3 by omega];exact ht
theorem sz_tok:(sizeOf (Tryz.prog.elem 36)).run Tryz.prog=fun w=>.ok 3 w:=by
 funext w
 have he:Tryz.prog.elem 36=41:=by kernel_rfl
 obtain⟨i0,hi,hz0,hz1,hz2⟩:=info_parts qgs
 rw[he]
 simp[sizeOf,typeInfo,hi,hz1]
theorem cut_h (a:Option Addr)(len cap hi:Nat)(h:hi<=cap)(wx:World):(Instr.slice 36 (.slice a len cap) none (some (Ya (hi:Nat))) none).run Tryz.prog wx=.ok (.slice (cutA a 0 cap 3) hi cap) wx:=by
 rw[run_slice_h wx 36 _ _ _ Tryz.underlying36 .i64 _ (by omega) (by omega),sz_tok]
 simp[sliced,cutA]
theorem cut_l (a:Option Addr)(len cap lo:Nat)(h:lo<=len)(wx:World):(Instr.slice 36 (.slice a len cap) (some (Ya (lo:Nat))) none none).run Tryz.prog wx=.ok (.slice (cutA a lo cap 3) (len - lo) (cap - lo)) wx:=by
 rw[run_slice_l wx 36 _ _ _ Tryz.underlying36 .i64 _ (by omega) (by omega),sz_tok]
 simp[sliced,cutA]
theorem cut_lh (a:Option Addr)(len cap lo hi:Nat)(h:lo<=hi)(h2:hi<=cap)(wx:World):(Instr.slice 36 (.slice a len cap) (some (Ya (lo:Nat))) (some (Ya (hi:Nat))) none).run Tryz.prog wx=.ok (.slice (cutA a lo cap 3) (hi - lo) (cap - lo)) wx:=by
 rw[run_slice_lh wx 36 _ _ _ Tryz.underlying36 .i64 .i64 _ _ (by omega) (by omega) (by omega),sz_tok]
 simp[sliced,cutA]
theorem q3a (op:Int)(w:World):Calls Tryz.prog 118 #[Ya op] w fun e w'=>e=.returned (.agg #[Ya op,Ya 0,Ya 0,Yc,Yc])/\Below w.heap.size w w':=by
 go_enter Tryz.func118,Tryz.ntmps118
 go_wp2
 exact bodyPost_ret (v:=.agg #[Ya op,Ya 0,Ya 0,Yc,Yc]) (by simp[results,Tryz.results118,go_sem]) rfl ⟨rfl,(bR _ _).alloc (nR _) _⟩
theorem q4z (k n:Int)(s:ByteArray)(w:World):Calls Tryz.prog 151 #[.agg (Ju k n s)] w fun e w'=>e=.returned (.agg #[Ya 0,Ya k,Ya n,.string s,Yc])/\Below w.heap.size w w':=by
 go_enter Tryz.func151,Tryz.ntmps151
 go_wp2
 first | exact bodyPost_ret (v:=.agg #[Ya 0,Ya k,Ya n,.string s,Yc]) (by simp[results,Tryz.results151,go_sem]) rfl ⟨rfl,(bR _ _).alloc (nR _) _⟩ | exact bodyPost_ret (v:=.agg #[Ya 0,Ya k,Ya n,.string s,Yc]) (by simp[results,Tryz.results151,go_sem]) rfl ⟨rfl,((bR _ _).alloc (nR _) _).alloc (by simp) _⟩
def SplA (w:World)(lv n:Nat)(l:List ByteArray)(x:List Nx)(r:Ending)(w':World):Prop:=∃v b,r=.returned (.tuple #[v,.bool b])/\Below w.heap.size w w'/\(b=true->∃e,Gr tkX lv n l e/\OwnN w' w.heap.size v (e++x))/\(b=false->∀e,¬ Gr tkX lv n l e)
def Splits (n:Nat):Prop:=∀(l:List ByteArray) (lv:Nat) (a:Option Addr) (c:Nat) (w:World),9*l.length+(8 - lv)<=n->1<=lv->lv<=7->l.length<=c->l.length<=1048576->TkOk l->Tks w a l ->
 Calls Tryz.prog 91 (J7 a l.length c lv) w (SplA w lv 0 l [])
structure CalI (l:List ByteArray)(k f:Nat)(ps:List (List ByteArray))(e:List Nx):Prop where
 hk:k<=l.length
 hf:f<=k
 hn:ps.length<=f
 he:e.length<=f
 al:AllG tkX ps e
 hp:pcs tkX 0 [] l=ps++pcs tkX (dpt tkX (l.take k)) ((l.take k).drop f) (l.drop k)
theorem CalI.start (l:List ByteArray):CalI l 0 0 [] []:=⟨nZ _,nR _,nR _,nR _,rfl,by simp[dpt]⟩
theorem CalI.go {l:List ByteArray}{k f:Nat}{ps:List (List ByteArray)}{e:List Nx}(h:CalI l k f ps e)(hk:k<l.length)(hn:¬ (dpt tkX (l.take (k+1))=0/\tkX.C l[k]=true)):CalI l (k+1) f ps e:=by
 refine⟨hk,by have:=h.hf;omega,h.hn,h.he,h.al,?_⟩
 rw[h.hp,qc0 hk]
 rw[qbz hk]at hn⊢
 simp only[pcs,Yi hn]
 rw[Yq hk,Vu (by rw[Yu];have:=h.hf;omega)]
theorem CalI.piece {l:List ByteArray}{k f:Nat}{ps:List (List ByteArray)}{e:List Nx}(h:CalI l k f ps e)(hc:k=l.length∨∃hk:k<l.length,dpt tkX (l.take (k+1))=0/\tkX.C l[k]=true):∃qs,pcs tkX 0 [] l=ps++(l.take k).drop f :: qs/\(k=l.length->qs=[])/\(k<l.length->qs=pcs tkX (dpt tkX (l.take (k+1))) [] (l.drop (k+1))):=by
 rw[h.hp]
 rcases hc with rfl | ⟨hk,hd,hC⟩
 . rw[List.drop_length]
   exact⟨[],rfl,fun _=>rfl,fun h=>absurd h (Nat.lt_irrefl _)⟩
 . rw[qc0 hk]
   have hd':=hd;rw[qbz hk]at hd';simp only[pcs,Yn (show dpt tkX (l.take k)+dlt tkX l[k]=0/\tkX.C l[k]=true from ⟨hd',hC⟩)];exact⟨_,rfl,fun h=>by omega,fun _=>by rw[hd]⟩
theorem CalI.cut {l:List ByteArray}{k f:Nat}{ps:List (List ByteArray)}{e e1:List Nx}(h:CalI l k f ps e)(hk:k<l.length)(hc:dpt tkX (l.take (k+1))=0/\tkX.C l[k]=true)(g:Gr tkX 1 0 ((l.take k).drop f) e1):CalI l (k+1) (k+1) (ps++[(l.take k).drop f]) (e++e1):=by
 obtain⟨qs,h1,-,h2⟩:=h.piece (.inr ⟨hk,hc⟩)
 have:=h.hf;have:=h.hn;have:=h.he
 have hg:=g.len
 rw[qg1 h.hk]at hg
 refine⟨hk,nR _,by simp;omega,by simp;omega,h.al.app ⟨e1,[],g,rfl,by simp⟩,?_⟩
 rw[h1,h2 hk,Z8,Yx (l:=l.take (k+1)) (by rw[Yu];omega)]
 rfl
theorem CalI.bad {l:List ByteArray}{k f:Nat}{ps:List (List ByteArray)}{e:List Nx}(h:CalI l k f ps e)(hc:k=l.length∨∃hk:k<l.length,dpt tkX (l.take (k+1))=0/\tkX.C l[k]=true)(g:∀e1,¬ Gr tkX 1 0 ((l.take k).drop f) e1)(n:Nat)(e':List Nx):¬ Gr tkX 8 n l e':=by
 obtain⟨qs,h1,-,-⟩:=h.piece hc
 intro hg
 have:=((qba tkX_ok).1 hg).2
 rw[h1]at this
 obtain⟨x,y,-,⟨u,v,hu,-,-⟩,-⟩:=this.unapp
 exact g u hu
theorem CalI.last {l:List ByteArray}{f:Nat}{ps:List (List ByteArray)}{e e1:List Nx}(h:CalI l l.length f ps e)(g:Gr tkX 1 0 ((l.take l.length).drop f) e1):Gr tkX 8 (ps.length+1) l (e++e1)/\(e++e1).length<=l.length/\∀n e',Gr tkX 8 n l e'->n=ps.length+1:=by
 obtain⟨qs,h1,h2,-⟩:=h.piece (.inl rfl)
 rw[h2 rfl]at h1
 have h3:(pcs tkX 0 [] l).length=ps.length+1:=by rw[h1];simp
 have h4:Gr tkX 8 (ps.length+1) l (e++e1):=(qba tkX_ok).2 ⟨h3,by rw[h1];exact h.al.app ⟨e1,[],g,rfl,by simp⟩⟩
 exact⟨h4,h4.len,fun n e' hg=>(((qba tkX_ok).1 hg).1).symm.trans h3⟩
theorem qco {w:World}{b1 b2:Nat}{v1 v2:Value}{e1 e2:List Nx}(h1:OwnN w b1 v1 e1)(h2:OwnN w b2 v2 e2)(hl:e1.length+e2.length<=1048576):Calls Tryz.prog 117 #[v1,v2] w fun r w'=>∃v,r=.returned v/\OwnN w' w.heap.size v (e1++e2)/\Below w.heap.size w w':=by
 obtain⟨a,c,rfl,n1⟩:=h1.nods
 obtain⟨b,d,rfl,n2⟩:=h2.nods
 exact q73 a b c d e1 e2 w hl n1 n2
theorem tokC (t:ByteArray):tkX.C t=decide (t=⟨#[44]⟩):=rfl
theorem q9i (l:List ByteArray)(op n:Nat)(a:Option Addr)(c:Nat)(w:World)(hI:Splits (9*l.length+7))(har:ar (op:Nat)=(n:Nat))(hc:l.length<=c)(hl:l.length<=1048576)(ht:TkOk l)(ha:Tks w a l) :
 Calls Tryz.prog 157 (J7 a l.length c (op:Nat)) w (SplA w 8 n l [opNd op]):=by
 have HI:=h_ hI;have HT:=h_ ht;have HA:=h_ ha;have HAr:=h_ har
 have HB0:=h_ ((bR w.heap.size w).alloc (nR _) (.cells #[] 133))
 have HO0:=h_ (OwnN.none w)
 obtain⟨W0,hW0⟩:=Nq (w.alloc (.cells #[] 133))
 rw[hW0]at HB0 HO0
 clear hI ht ha har
 go_enter Tryz.func157,Tryz.ntmps157
 go_wp2_with fail
 try rw[hW0]
 clear hW0
 go_loopw [6,7,8,9,10,11,12] (fun v cv fv dv iv _ _ wr=>∃(k f:Nat) (ps:List (List ByteArray)) (e:List Nx),cv=Ya (ps.length:Nat)/\fv=Ya (f:Nat)/\dv=Ya (dpt tkX (l.take k))/\iv=Ya (k:Nat)/\OwnN wr w.heap.size v e/\Below w.heap.size w wr/\(CalI l k f ps e∨(k=l.length+1/\ps.length<=l.length+1/\Gr tkX 8 ps.length l e/\∀n e',Gr tkX 8 n l e'->n=ps.length))) (fun _ _ _ _ i _ _ _=>l.length+1 - (intOf i).toNat)
 case atStart=>exact⟨0,0,[],[],rfl,rfl,rfl,rfl,HO0.u,HB0.u,.inl (CalI.start l)⟩
 case round =>
  clear HO0 HB0;obtain⟨k,f,ps,e,rfl,rfl,rfl,rfl,ho,hb,hq⟩:=hrel;have HO:=h_ ho;have HB:=h_ hb;clear ho hb;rcases hq with hq | ⟨rfl,hpl,hg,hu⟩
  case inr =>
   have hlt':¬ ((l.length+1:Nat):Int)<=(l.length:Nat):=by omega
   have HG:=h_ hg;have HU:=h_ hu;clear hg hu;by_cases hn:ps.length=n
   . subst hn
     have hb1:((ps.length:Int) != (ps.length:Int))=false:=(by simp);have HNn:Hi (Blk _ _ 133 (nC (opNd op))):=h_ (Blk.new wr 133 (nC (opNd op)).toArray);have hge:=HG.u.len;go_wp2_with (go_at_call 180;refine(q4s _ _).mono ?_;rintro e9 w9 ⟨rfl,rfl⟩;rw[HAr.u]);refine(q3a _ _).mono ?_;rintro e9 w9 ⟨rfl,hb⟩;replace HB:=mT HB hb;replace HO:=h_ (HO.u.keep hb);clear hb HNn;have HNn:Hi (Blk _ _ 133 (nC (opNd op))):=h_ (Blk.new w9 133 (nC (opNd op)).toArray);have HS:=h_ ((bR w9.heap.size w9).alloc (nR _) (.cells (nC (opNd op)).toArray 133));go_wp2_with (at_builtin;refine q45 rfl _ _ rfl rfl (HO.u.keep HS.u) rfl HNn.u (by omega) (Yt HB.u.size HS.u.size) ?_);intro v' W9 ho hb9;have HO9:=h_ ho;have HB9:=h_ (HB.u.trans ((HS.u.mono HB.u.size).trans hb9));clear ho hb9;go_wp2_with fail
     go_ret2
     exact⟨_,_,rfl,HB9.u,fun _=>⟨e,HG.u,HO9.u⟩,(fun h=>nomatch h)⟩
   . have hb1:((ps.length:Int) != (n:Int))=true:=by simp;omega
     have HZ:=h_ ((bR wr.heap.size wr).alloc (nR _) (.cells #[] 133));go_wp2_with (go_at_call 180;refine(q4s _ _).mono ?_;rintro e9 w9 ⟨rfl,rfl⟩;rw[HAr.u])
     go_ret2
     exact⟨_,_,rfl,HB.u.trans (HZ.u.mono HB.u.size),(fun h=>nomatch h),fun _ e' hg=>hn (HU.u _ _ hg).symm⟩
  have HQ:=h_ hq;have hk:=hq.hk;have hf:=hq.hf;have hpn:=hq.hn;have hen:=hq.he;have hds:=q8x l k hk;have hle':(k:Int)<=(l.length:Nat):=by omega
  clear hq;have HV:=h_ (HA.u.mono HB.u);obtain⟨P,hP⟩:=Nq ((l.take k).drop f);have hPl:P.length=k - f:=by rw[<- hP,qg1 hk]
  have HPT:Hi (TkOk P):=h_ (by rw[<- hP];exact HT.u.cut f k);have HPV:Hi (Tks wr (cutA a f c 3) P):=h_ (by rw[<- hP];exact HV.u.cut hk hc);have hsl:=cut_lh a l.length c f k hf (by omega);rw[<- hPl]at hsl;have HPe:=h_ hP;have hPm:P.length<=k - f:=by omega
  clear hP hPl;by_cases hlt:k<l.length
  case neg =>
   obtain rfl:k=l.length:=by omega
   have hlt':¬ (l.length:Int)<(l.length:Nat):=by omega
   have heq:((l.length:Int)==(l.length:Nat))=true:=by simp
   go_wp2_with fail;refine(HI.u P 1 _ (c - f) _ (by omega) (by omega) (by omega) (by omega) (by omega) HPT.u HPV.u).mono ?_;rintro r w1 ⟨va,b,rfl,hb,hy,hno⟩;replace HB:=mT HB hb;replace HO:=h_ (HO.u.keep hb);cases b
   . have HN:=h_ (hno rfl)
     clear hy hno hb;have HZ:=h_ ((bR w1.heap.size w1).alloc (nR _) (.cells #[] 133));go_wp2_with fail
     go_ret2
     exact⟨_,_,rfl,HB.u.trans (HZ.u.mono HB.u.size),(fun h=>nomatch h),fun _ e'=>HQ.u.bad (.inl rfl) (by rw[HPe.u];exact HN.u) _ e'⟩
   . obtain⟨e1,hg,ho1⟩:=hy rfl
     rw[Zi]at ho1;have HG:=h_ hg;have HO1:=h_ ho1;have hgl:=hg.len;clear hy hno hb hg ho1;go_wp2_with fail;refine(qco HO.u HO1.u (by omega)).mono ?_;rintro r w2 ⟨vj,rfl,hoj,hb⟩;have HB2:=mT HB hb;have HO2:=h_ (hoj.low HB.u.size);have HL:=h_ (HQ.u.last (by rw[HPe.u];exact HG.u));clear hb hoj;go_wp2_with fail;go_roundw
     case rel =>
      obtain⟨l1,l2,l3⟩:=HL.u;have hlen:(ps++[P]).length=ps.length+1:=(by simp);refine⟨l.length+1,l.length+1,ps++[P],e++e1,by rw[hlen];go_num,by go_num,by rw[Za (Nat.le_succ _)];try rw[Zl],by go_num,HO2.u,HB2.u,.inr ⟨rfl,by rw[hlen];omega,by rw[hlen];exact l1,by rw[hlen];exact l3⟩⟩
     case measure=>first | (simp[intOf];omega) | simp[intOf]
  have hlt':(k:Int)<(l.length:Nat):=by omega
  have hneq:((k:Int)==(l.length:Nat))=false:=Ye.2 (by omega);obtain⟨bb,oo,p,rfl,hcc⟩:=HV.u k hlt;have HD:=h_ (qbz hlt);obtain⟨t,ht⟩:=Nq (l[k]);rw[ht]at hcc HD;have HGo:Hi (¬ (dpt tkX (l.take (k+1))=0/\tkX.C t=true)->CalI l (k+1) f ps e):=h_ (fun h=>HQ.u.go hlt (by rw[ht];exact h));have HCut:Hi (∀e1,dpt tkX (l.take (k+1))=0->tkX.C t=true->Gr tkX 1 0 P e1->CalI l (k+1) (k+1) (ps++[P]) (e++e1)):=h_ (fun e1 h1 h2 h3=>by have:=HQ.u.cut hlt ⟨h1,by rw[ht];exact h2⟩ (e1:=e1) (by rw[HPe.u];exact h3);rw[HPe.u]at this;exact this);have HBad:Hi (dpt tkX (l.take (k+1))=0->tkX.C t=true->(∀e1,¬ Gr tkX 1 0 P e1)->∀e',¬ Gr tkX 8 n l e'):=h_ (fun h1 h2 h3 e'=>HQ.u.bad (.inr ⟨hlt,h1,by rw[ht];exact h2⟩) (by rw[HPe.u];exact h3) n e');have HC:=h_ hcc;obtain⟨-,c0,c1,c2⟩:=hcc;clear ht HQ HV HPe;have HL:=h_ (fun w=>qj9 (t:=t) (s:=⟨#[40]⟩) p (by decide) w);have HJ:=h_ (fun w=>qj9 (t:=t) (s:=⟨#[41]⟩) p (by decide) w);have HK:=h_ (fun w=>qj9 (t:=t) (s:=⟨#[44]⟩) p (by decide) w);unfold tV at HL HJ HK;rw[tokC]at HGo HCut HBad;obtain⟨d',hd'⟩:=Nq (dpt tkX (l.take (k+1)));obtain⟨d,hd⟩:=Nq (dpt tkX (l.take k));rw[hd']at HGo HCut HBad HD;rw[hd]at HD hds⊢;have HD1:=h_ hd';clear hd hd';have wp1:wrap64 (d+1)=d+1:=q40 (by omega) (by omega);have wm1:wrap64 (d - 1)=d - 1:=q40 (by omega) (by omega);generalize decide (t=(⟨#[44]⟩:ByteArray))=dC at *;rcases tokLR t with ⟨q1,q2,-,-,q5⟩ | ⟨q1,q2,-,-,q5⟩ | ⟨q1,q2,-,-,q5⟩
  all_goals
   rw[q1]at HL;rw[q2]at HJ;rw[q5]at HD;have hdq:=HD.u
   try rw[<- Int.sub_eq_add_neg]at hdq
   try rw[Int.add_zero]at hdq
   clear q1 q2 q5 HD;go_wp2_with fail;refine(HL.u _).mono ?_;rintro e9 W1 ⟨rfl,hb⟩;replace HB:=mT HB hb;replace HC:=h_ (HC.u.mono hb);replace HPV:=h_ (HPV.u.mono hb);replace HO:=h_ (HO.u.keep hb);clear hb c0 c1 c2;obtain⟨-,c0,c1,c2⟩:=HC.u;go_wp2_with fail;refine(HJ.u _).mono ?_;rintro e9 W2 ⟨rfl,hb⟩;replace HB:=mT HB hb;replace HC:=h_ (HC.u.mono hb);replace HPV:=h_ (HPV.u.mono hb);replace HO:=h_ (HO.u.keep hb);clear hb c0 c1 c2;obtain⟨-,c0,c1,c2⟩:=HC.u;by_cases h0:d'=0
   case neg =>
    have h0':(d'==0)=false:=Ye.2 h0;rw[hdq]at h0';have HX:=h_ (HGo.u (fun h=>h0 h.1));go_wp2_with fail;go_roundw
    case rel=>first | exact⟨k+1,f,ps,e,rfl,rfl,by rw[HD1.u,hdq],by go_num,HO.u,HB.u,.inl HX.u⟩ | ((repeat apply Exists.intro);exact⟨⟨k+1,f,ps,e,rfl,rfl,by rw[HD1.u,hdq],by go_num,HO.u,HB.u,.inl HX.u⟩,rfl⟩)
    case measure=>simp[intOf];omega
   have h0':(d'==0)=true:=by simp[h0]
   rw[hdq]at h0';cases dC
   case false =>
    have HX:=h_ (HGo.u (fun h=>by cases h.2));go_wp2_with fail;refine(HK.u _).mono ?_;rintro e9 W3 ⟨rfl,hb⟩;replace HB:=mT HB hb;replace HO:=h_ (HO.u.keep hb);clear hb c0 c1 c2;go_wp2_with fail;go_roundw
    case rel=>first | exact⟨k+1,f,ps,e,rfl,rfl,by rw[HD1.u,hdq],by go_num,HO.u,HB.u,.inl HX.u⟩ | ((repeat apply Exists.intro);exact⟨⟨k+1,f,ps,e,rfl,rfl,by rw[HD1.u,hdq],by go_num,HO.u,HB.u,.inl HX.u⟩,rfl⟩)
    case measure=>simp[intOf];omega
   go_wp2_with fail;refine(HK.u _).mono ?_;rintro e9 W3 ⟨rfl,hb⟩;replace HB:=mT HB hb;replace HPV:=h_ (HPV.u.mono hb);replace HO:=h_ (HO.u.keep hb);clear hb c0 c1 c2;go_wp2_with fail;refine(HI.u P 1 _ (c - f) _ (by omega) (by omega) (by omega) (by omega) (by omega) HPT.u HPV.u).mono ?_;rintro r w1 ⟨va,b,rfl,hb,hy,hno⟩;replace HB:=mT HB hb;replace HO:=h_ (HO.u.keep hb);cases b
   . have HN:=h_ (hno rfl)
     clear hy hno hb;have HZ:=h_ ((bR w1.heap.size w1).alloc (nR _) (.cells #[] 133));go_wp2_with fail
     go_ret2
     exact⟨_,_,rfl,HB.u.trans (HZ.u.mono HB.u.size),(fun h=>nomatch h),fun _ e'=>HBad.u h0 trivial HN.u e'⟩
   . obtain⟨e1,hg,ho1⟩:=hy rfl
     rw[Zi]at ho1;have HG:=h_ hg;have HO1:=h_ ho1;have hgl:=hg.len;clear hy hno hb hg ho1;go_wp2_with fail;refine(qco HO.u HO1.u (by omega)).mono ?_;rintro r w2 ⟨vj,rfl,hoj,hb⟩;have HB2:=mT HB hb;have HO2:=h_ (hoj.low HB.u.size);have HX:=h_ (HCut.u e1 h0 trivial HG.u);clear hb hoj;go_wp2_with fail;go_roundw
     case rel =>
      have hlen:(ps++[P]).length=ps.length+1:=by simp
      first | exact⟨k+1,k+1,ps++[P],e++e1,by rw[hlen];go_num,by go_num,by rw[HD1.u,hdq],by go_num,HO2.u,HB2.u,.inl HX.u⟩ | ((repeat apply Exists.intro);exact⟨⟨k+1,k+1,ps++[P],e++e1,by rw[hlen];go_num,by go_num,by rw[HD1.u,hdq],by go_num,HO2.u,HB2.u,.inl HX.u⟩,rfl⟩)
     case measure=>simp[intOf];omega
end Go.Proofs.YtfmammdgehbjhaaGreatDoor
