import Derived.Lib.ItoaNum
import Derived.Test.YtenckgnkjkijnaaGreatDoorRows
import Derived.WalkKit
import Derived.ProofKit
import Derived.BigQuiet
set_option linter.all false
set_option maxRecDepth 100000
set_option maxHeartbeats 0
namespace Go.Proofs.YtenckgnkjkijnaaGreatDoor
section
def kad:List Nat->Nat
 | []=>0
 | d :: r=>d+10*kad r
def Dig (l:List Nat):Prop:=∀d,d∈l->d<10
def kab (n:Nat):List Nat:=if _h:n=0 then [] else n % 10 :: kab (n / 10)
 termination_by n
 decreasing_by omega
def qfc:kab 0=[]:=by simp[kab]
def qjr {n:Nat}(a:n≠0):kab n=n % 10 :: kab (n / 10):=by grind[kab]
theorem qfg (n:Nat):kad (kab n)=n:=by induction n using Nat.strongRecOn <;> grind[kad,kab]
theorem qjo (n:Nat):Dig (kab n):=by induction n using Nat.strongRecOn <;> grind[Dig,kab]
def qjq {n:Nat}:kab n=[] ↔ n=0:=by grind[kab]
def q7r (l m:List Nat):kad (l++m)=kad l+10 ^ l.length*kad m:=by induction l <;> grind[kad]
theorem qfh (l:List Nat)(a:Nat):kad (l++[a])=kad l+10 ^ l.length*a:=by simp[kad,q7r]
def Dig.tail {n:Nat}{l:List Nat}(b:Dig (n :: l)):Dig l:=λa c=>b a (List.mem_cons_of_mem _ c)
def Dig.head {n:Nat}{l:List Nat}(a:Dig (n :: l)):n<10:=a n (List.mem_cons_self ..)
def Dig.snoc {l:List Nat}{n:Nat}(c:Dig l)(d:n<10):Dig (l++[n]):=λb a=>by rcases List.mem_append.1 a with a | a;{exact c b a};rw[List.mem_singleton.1 a];exact d
def Dig.cons {l:List Nat}{n:Nat}(c:Dig l)(d:n<10):Dig (n :: l):=λb a=>by rcases List.mem_cons.1 a with rfl | a;{exact d};exact c b a
def Dig.take {l:List Nat}(b:Dig l)(k:Nat):Dig (l.take k):=λa c=>b a (List.mem_of_mem_take c)
theorem qpd {l:List Nat}(a:Dig l):kad l<10 ^ l.length:=by induction l with|nil=>simp[kad]|cons c d b=>have:=b a.tail;have:=a.head;rw[kad,List.length_cons,Nat.pow_succ];omega
theorem kbf {l:List Nat}(b:Dig l):∀a,l.getD a 0=kad l / 10 ^ a % 10:=by induction l with|nil=>intro a;simp[kad]|cons d c f=>intro a;have g:=b.head;cases a with|zero=>simp[kad];omega|succ a=>have e:kad (d :: c) / 10 ^ (a+1)=kad c / 10 ^ a:=(by rw[kad,Nat.pow_succ,Nat.mul_comm (10 ^ a) 10,<- Nat.div_div_eq_div_mul];congr 1;omega);rw[e,<- f b.tail a];simp
def q0h {l:List Nat}(d:Dig l)(f:l=[]∨l.getD (l.length - 1) 0≠0):kab (kad l)=l:=by induction l with|nil=>simp[kad,qfc]|cons b a j=>have k:=d.head;have i:a=[]∨a.getD (a.length - 1) 0≠0:=(by cases a with|nil=>exact .inl rfl|cons c e=>exact .inr (by simpa using f));have e:=j d.tail i;have h:kad (b :: a)≠0:=(by intro g;have c:b=0/\kad a=0:=(by rw[kad]at g;omega);have:a=[]:=(by rw[<- e,c.2,qfc]);subst this;simp[c.1]at f);rw[qjr h,kad,show(b+10*kad a) % 10=b by omega,show(b+10*kad a) / 10=kad a by omega,e]
def qu1 {l:List Nat}(f:Dig l){k:Nat}(o:k<=l.length)(j:∀a,k<=a->a<l.length->l.getD a 0=0)(h:k=0∨l.getD (k - 1) 0≠0):l.take k=kab (kad l):=by have i:kad l=kad (l.take k):=(by (conv=>lhs;rw[<- List.take_append_drop k l]);rw[q7r];have:∀c:List Nat,(∀a,a<c.length->c.getD a 0=0)->kad c=0:=(by intro c;induction c with|nil=>intro _;rfl|cons n p m=>intro e;have b:=e 0 (by simp);have g:=m (λa d=>by have:=e (a+1) (by simpa using d);simpa using this);simp at b;rw[kad,b,g]);rw[this (l.drop k) (λa d=>by have c:k+a<l.length:=(by simp at d;omega);have:=j (k+a) (by omega) c;simpa [List.getD,List.getElem?_drop] using this)];simp);rw[i,q0h (f.take k)];rcases h with b | b;{left;subst b;simp};by_cases a:k=0;{left;subst a;simp};right;have:(l.take k).length=k:=(by simp;omega);rw[this];simpa [List.getD,List.getElem?_take,show k - 1<k by omega] using b
def q26 {n k:Nat}(a:n<10 ^ k):(kab n).length<=k:=by induction k generalizing n <;> grind[kab]
def qrb (n:Nat):n<10 ^ (kab n).length:=by grind[kab,qpd,qjo,qfg]
def qp8 (n i:Nat):(kab n).getD i 0=n / 10 ^ i % 10:=by rw[kbf (qjo n),qfg]
def qp9 {n:Nat}(c:n≠0):10 ^ ((kab n).length - 1)<=n:=by induction n using Nat.strongRecOn with|_ n ih=>rw[qjr c,List.length_cons,Nat.add_sub_cancel];by_cases a:n / 10=0;{rw[a,qfc];simp;omega};have:=ih (n / 10) (by omega) a;have e:(kab (n / 10)).length≠0:=(by intro b;exact a (qjq.1 (List.length_eq_zero_iff.1 b)));obtain⟨b,d⟩:∃b,(kab (n / 10)).length=b+1:=⟨(kab (n / 10)).length - 1,by omega⟩;rw[d]at this⊢;simp only[Nat.add_sub_cancel]at this;rw[Nat.pow_succ];omega
def q7p {m n:Nat}(b:(kab m).length<(kab n).length):m<n:=by have d:=qrb m;have c:n≠0:=(by intro a;subst a;simp[qfc]at b);have e:=qp9 c;have f:10 ^ (kab m).length<=10 ^ ((kab n).length - 1):=Nat.pow_le_pow_right (by decide) (by omega);omega
def qju (n i:Nat):n / 10 ^ i=10*(n / 10 ^ (i+1))+n / 10 ^ i % 10:=by rw[Nat.pow_succ,<- Nat.div_div_eq_div_mul];omega
def qld (n i:Nat):n % 10 ^ (i+1)=n % 10 ^ i+10 ^ i*(n / 10 ^ i % 10):=by rw[Nat.pow_succ,Nat.mod_mul]
def qfe {m n p:Nat}(b:m / p<n / p):m<n:=by rcases Nat.lt_or_ge m n with a | a;{exact a};exact absurd (Nat.div_le_div_right (c:=p) a) (by omega)
def qj2 {L p c s A B x y:Nat}(e:L+c*p=A+B)(a:s=x+y+c):(L+p*(s % 10))+(s / 10)*(p*10)=(A+p*x)+(B+p*y):=by have b:p*(s % 10)+(s / 10)*(p*10)=p*s:=(by rw[Nat.mul_comm (s / 10),Nat.mul_assoc,<- Nat.mul_add,Nat.mod_add_div]);have d:p*s=p*x+p*y+c*p:=(by rw[a,Nat.mul_add,Nat.mul_add,Nat.mul_comm c p]);omega
def qnc {L p c A B x y:Nat}(d:A+c*p=L+B)(e:c<=1)(f:x<10)(hy:y<10):∃b a,a<=1/\b<10/\(x+10*a=y+c+b)/\(a=1 ↔ x<y+c)/\(A+p*x)+a*(p*10)=(L+p*b)+(B+p*y):=by by_cases b:x<y+c;{refine⟨x+10 - y - c,1,by omega,by omega,by omega,by omega,?_⟩;have a:p*x+p*10=p*(x+10 - y - c)+p*y+p*c:=(by rw[<- Nat.mul_add,<- Nat.mul_add,<- Nat.mul_add];congr 1;omega);rw[Nat.mul_comm c p]at d;omega};refine⟨x - y - c,0,by omega,by omega,by omega,by omega,?_⟩;have a:p*x=p*(x - y - c)+p*y+p*c:=(by rw[<- Nat.mul_add,<- Nat.mul_add];congr 1;omega);rw[Nat.mul_comm c p]at d;omega
def qlh {L p c s A x y:Nat}(e:L+c*p=A*y)(a:s=x*y+c):(L+p*(s % 10))+(s / 10)*(p*10)=(A+p*x)*y:=by have b:p*(s % 10)+(s / 10)*(p*10)=p*s:=(by rw[Nat.mul_comm (s / 10),Nat.mul_assoc,<- Nat.mul_add,Nat.mod_add_div]);have d:p*s=p*x*y+c*p:=(by rw[a,Nat.mul_add,Nat.mul_comm c p,Nat.mul_assoc]);rw[Nat.add_mul];omega
def qff {n m i r:Nat}(b:0<m)(d:r=n / 10 ^ (i+1) % m):(10*r+n / 10 ^ i % 10) / m<10/\(10*r+n / 10 ^ i % 10) / m=n / m / 10 ^ i % 10/\(10*r+n / 10 ^ i % 10) % m=n / 10 ^ i % m:=by have j:r<m:=(by rw[d];exact Nat.mod_lt _ b);have f:n / 10 ^ (i+1)=m*(n / 10 ^ (i+1) / m)+r:=(by rw[d];exact(Nat.div_add_mod _ _).symm);have k:n / 10 ^ i % 10<10:=Nat.mod_lt _ (by decide);have g:=qju n i;generalize n / 10 ^ i % 10=a at *;generalize n / 10 ^ (i+1) / m=h at *;have c:n / 10 ^ i=m*(10*h)+(10*r+a):=(by rw[g,f,Nat.mul_add,Nat.mul_left_comm];omega);have e:(10*r+a) / m<10:=(by rw[Nat.div_lt_iff_lt_mul b];omega);refine⟨e,?_,?_⟩;{rw[Nat.div_div_eq_div_mul,Nat.mul_comm m,<- Nat.div_div_eq_div_mul,c,Nat.mul_add_div b];generalize (10*r+a) / m=l at *;omega};rw[c,Nat.mul_add_mod]
def q25 {n:Nat}(b:n≠0):Lib.decDigits n=(kab n).reverse.map λa=>UInt8.ofNat (48+a):=by induction n using Nat.strongRecOn with|_ n ih=>rw[qjr b,Lib.decDigits];by_cases a:n<10;{rw[dif_pos a,show n / 10=0 by omega,qfc,Nat.mod_eq_of_lt a];simp};rw[dif_neg a,ih (n / 10) (by omega) (by omega)];simp
end
section
open Go Go.RowKit Go.Proofs.Tryz
def cr {p:Prop}(h:p:=by omega):p:=h
def ct {p:Prop}(h:p:=by (first | simp only[Yf,Yg] | skip);rfl):p:=h
def cu {p:Prop}(h:p:=by kernel_rfl):p:=h
def cw {p:Prop}(h:p:=by simp):p:=h
def cx {p:Prop}(h:p:=by decide):p:=h
def cy {p:Prop}(h:p:=by go_num):p:=h
def cz {p:Prop}(h:p:=by simp;omega):p:=h
def cC {p:Prop}(h:p:=by show _≠w.1.size+1;omega):p:=h
def cE {p:Prop}(h:p:=by unfold maxLen;omega):p:=h
def cG {p:Prop}(h:p:=by simp[Value.oneCell']):p:=h
def cH {p:Prop}(h:p:=by rfl):p:=h
def cI {p:Prop}(h:p:=by simp[execOp,go_sem]):p:=h
def cJ {p:Prop}(h:p:=by have:=C.u;omega):p:=h
def cK {p:Prop}(h:p:=by assumption):p:=h
def cL {p:Prop}(h:p:=by first | rfl | trivial):p:=h
def cM {p:Prop}(h:p:=by simp[results,go_sem, *]):p:=h
def cN {p:Prop}(h:p:=by show _≠w.1.size+2;omega):p:=h
def cP {p:Prop}(h:p:=by simp[results,results66,go_sem,k0,k1,j0,j1,j2,j3,j4,j5,j6,j7,j8,j9,ag,ah]):p:=h
def cR {p:Prop}(h:p:=by have:=I.u;omega):p:=h
def cU {p:Prop}(h:p:=by have:=h.size;simp;omega):p:=h
def cV {p:Prop}(h:p:=by simpa using a):p:=h
def cX {p:Prop}(h:p:=by simp <;> omega):p:=h
def cY {p:Prop}(h:p:=by simp[results,results87,go_sem,kaP, *]):p:=h
def da {p:Prop}(h:p:=by rw[<- Zi];omega):p:=h
def db {p:Prop}(h:p:=by have:=k.u;have:=c.size;omega):p:=h
def dd {p:Prop}(h:p:=by simp[c]):p:=h
def de {p:Prop}(h:p:=by have:=f.size;simp;omega):p:=h
def df {p:Prop}(h:p:=by simpa using c):p:=h
def dg {p:Prop}(h:p:=by simp[results,results165,go_sem,kaP, *]):p:=h
def dh {p:Prop}(h:p:=by have:=k.u;have:=b.size;omega):p:=h
def di {p:Prop}(h:p:=by simpa using G.u):p:=h
def dj {p:Prop}(h:p:=by simp[results,vv,results274,go_sem, *]):p:=h
def dl {p:Prop}(h:p:=by rw[<- z.u,qtm t.u,u.u];rfl):p:=h
def dm {p:Prop}(h:p:=by simp[results,results62,go_sem,r,t]):p:=h
def dn {p:Prop}(h:p:=by simpa using d):p:=h
def dp {p:Prop}(h:p:=by simpa using e):p:=h
def dq {p:Prop}(h:p:=by have:=b.size;simp;omega):p:=h
def dr {p:Prop}(h:p:=by have:=h.size;omega):p:=h
def ds {p:Prop}(h:p:=by have:=e.size;simp;omega):p:=h
def dt {p:Prop}(h:p:=by have:=i.size;simp;omega):p:=h
def du {p:Prop}(h:p:=by simp[kbt,c]):p:=h
def dv {p:Prop}(h:p:=by simp[kae,c.u]):p:=h
def dw {p:Prop}(h:p:=by simpa using b):p:=h
def dx {p:Prop}(h:p:=by simpa using j):p:=h
def dy {p:Prop}(h:p:=by rw[<- t.u];simp[apY,ka2,X.u]):p:=h
def dz {p:Prop}(h:p:=by rw[<- l.u];simp[kcH]):p:=h
def dA {p:Prop}(h:p:=by rw[HT.u];simpa [ui] using C):p:=h
def dB {p:Prop}(h:p:=by first | omega | (simp;done)):p:=h
def dC {p:Prop}(h:p:=by have:=s.u;omega):p:=h
def dD {p:Prop}(h:p:=by rw[Yt];rfl):p:=h
def dE {p:Prop}(h:p:=by rw[<- d.u]):p:=h
def dF {p:Prop}(h:p:=by show w.1.size<=h;omega):p:=h
def dG {p:Prop}(h:p:=by simp[tb] <;> omega):p:=h
def dH {p:Prop}(h:p:=by simp[cxC,Value.oneCell']):p:=h
def dI {p:Prop}(h:p:=by simpa using i):p:=h
def dJ {p:Prop}(h:p:=by have:=e.lt;omega):p:=h
abbrev To:=Option Addr
abbrev Tl:=List Value
abbrev Ta:=Array Value
abbrev Tb:=ByteArray
abbrev Tw:=World
abbrev Bw (w v:Tw):Prop:=Below w.1.size w v
abbrev Gv (f:FuncId)(a:Ta)(w:Tw)(v:Value):Prop:=Calls prog f a w λe x=>e=.returned v/\Bw w x
abbrev Jc(x0:Int)(x1:Int)(x2:Tb):Ta:=#[.int .i64 x0,.int .i64 x1,.string x2]
abbrev Jd:Ta:=#[.slice none 0 0,.slice none 0 0,.slice none 0 0,.slice none 0 0,.map none,.int .i64 0,.slice none 0 0,.slice none 0 0,.slice none 0 0,.int .i64 0,.int .i64 0,.slice none 0 0]
abbrev Jf:Ta:=#[.int .i64 0,.int .i64 0,.string ⟨#[]⟩]
abbrev Jh(x0:Int)(x1:To)(x2:Nat)(x3:Nat)(x4:To)(x5:Nat)(x6:To)(x7:Nat)(x8:Int)(x9:Int):Ta:=#[.int .i64 x0,.slice x1 x2 x3,.slice x4 x2 x5,.slice x6 x2 x7,.int .i64 x8,.int .i64 x9]
abbrev Jk:Ta:=#[.bool false,.slice none 0 0]
abbrev Jl:Tl:=[.int .i64 0,.int .i64 0,.string ⟨#[]⟩]
abbrev Jm:Ta:=#[.int .i64 0,.int .i64 0]
abbrev Jn(x0:Int)(x1:Int)(x2:Tb)(x3:Bool)(x4:Bool)(x5:Bool):Ta:=#[.int .i64 x0,.int .i64 x1,.string x2,.bool x3,.bool x4,.bool x5]
abbrev Jo(x0:Int)(x1:To)(x2:Nat)(x3:Nat):Ta:=#[.int .i64 x0,.slice x1 x2 x3]
abbrev Jp:Ta:=#[.string ⟨#[]⟩,.int .i64 0,.int .i64 0,.slice none 0 0,.slice none 0 0,.slice none 0 0,.slice none 0 0,.string ⟨#[]⟩,.slice none 0 0]
abbrev Js:Ta:=#[.slice none 0 0,.slice none 0 0,.slice none 0 0,.slice none 0 0]
abbrev Jt:Ta:=#[.int .i64 0,.int .i64 0,.string ⟨#[]⟩,.bool false,.bool false,.bool false]
abbrev Jv(x0:Bool)(x1:To)(x2:Nat)(x3:Nat):Ta:=#[.bool x0,.slice x1 x2 x3]
abbrev Jw(x0:Int)(x1:Int):Ta:=#[.int .i64 x0,.int .i64 x1]
abbrev Jy:Ta:=#[.string ⟨#[]⟩,.int .i64 0,.int .i64 0]
abbrev J0(x0:Tb)(x1:Tb):Ta:=#[.string ⟨#[114,111,108,101]⟩,.string x0,.string ⟨#[97,116]⟩,.string x1]
abbrev J1(x0:Tb)(x1:Tb):Ta:=#[.string ⟨#[102,105,101,108,100]⟩,.string x0,.string x1,.string ⟨#[97,116]⟩,.string ⟨#[97,117,116,111]⟩]
abbrev J2:Ta:=#[.slice none 0 0,.slice none 0 0,.slice none 0 0,.slice none 0 0,.map none]
abbrev J3(x0:Int)(x1:Int)(x2:Tb):Tl:=[.int .i64 x0,.int .i64 x1,.string x2]
abbrev J4(x0:Tb)(x1:Int)(x2:Int):Ta:=#[.string x0,.int .i64 x1,.int .i64 x2]
abbrev J5(x0:Int)(x1:Int)(x2:Int)(x3:Tb)(x4:Tb):Ta:=#[.int .i64 x0,.int .i64 x1,.int .i64 x2,.string x3,.string x4]
abbrev J6:Ta:=#[.slice none 0 0,.slice none 0 0]
abbrev J7(x0:Tb)(x1:Tb):Ta:=#[.string ⟨#[98,101,108,111,119]⟩,.string x0,.string x1]
abbrev J8(x0:Int):Ta:=#[.int .i64 1,.int .i64 x0,.string ⟨#[]⟩]
abbrev J9(x0:To)(x1:Nat)(x2:Nat)(x3:Int):Ta:=#[.slice x0 x1 x2,.int .i64 x3]
abbrev Ya(x0:Int):Ta:=#[.int .u32 x0]
abbrev Yb(x:Int):Value:=.int .i64 x
abbrev Yc:Value:=.slice none 0 0
abbrev Yd:Value:=.string ⟨#[]⟩
abbrev Ye(b o:Nat):Value:=.pointer (some ⟨b,o,none⟩)
def ka3 (w:Tw)(a:To)(n:Nat)(f:Nat->Bool):Prop :=
 ∀k,k<n->∃b off,a=some ⟨b,off,none⟩/\b<w.1.size/\w.cell? ⟨b,off+k,none⟩=some (.bool (f k))
def kbG (w:Tw)(a:To)(n:Nat)(f:Nat->Int):Prop :=
 ∀k,k<n->∃b off,a=some ⟨b,off,none⟩/\b<w.1.size/\w.cell? ⟨b,off+k,none⟩=some (.int .i64 (f k))
def ka3.mono {w w':Tw}{a:To}{n:Nat}{f:Nat->Bool}(h:ka3 w a n f)(c:Bw w w'):ka3 w' a n f:=λe j=>by obtain⟨b,g,rfl,d,i⟩:=h e j;exact⟨b,g,rfl,Nat.lt_of_lt_of_le d c.size,(c.cell (p:=⟨b,g+e,none⟩) d).trans i⟩
def kbG.mono {w w':Tw}{a:To}{n:Nat}{f:Nat->Int}(h:kbG w a n f)(c:Bw w w'):kbG w' a n f:=λe j=>by obtain⟨b,g,rfl,d,i⟩:=h e j;exact⟨b,g,rfl,Nat.lt_of_lt_of_le d c.size,(c.cell (p:=⟨b,g+e,none⟩) d).trans i⟩
def Blk (w:Tw)(g:Nat)(t:TypeId)(cs:Tl):Prop:=w.heap[g]? = some (.cells cs.toArray t (0,0))
def Blk.lt {w:Tw}{g:Nat}{t:TypeId}{cs:Tl}(a:Blk w g t cs):g<w.1.size:=(Array.getElem?_eq_some_iff.1 a).1
def Blk.cell {w:Tw}{g:Nat}{t:TypeId}{cs:Tl}(a:Blk w g t cs)(j:Nat):w.cell? ⟨g,j,none⟩=cs[j]?:=by simp only[World.cell?,show w.heap[g]? = _ from a];simp
def Blk.free {w:Tw}{g:Nat}{t:TypeId}{cs:Tl}(a:Blk w g t cs)(j:Nat):w.frozen? ⟨g,j,none⟩=false:=by simp only[World.frozen?,show w.heap[g]? = _ from a];simp
def Blk.mono {w w':Tw}{B g:Nat}{t:TypeId}{cs:Tl}(a:Blk w g t cs)(b:Below B w w')(c:g<B):Blk w' g t cs:=(b.block g c).trans a
def Blk.set {w:Tw}{g:Nat}{t:TypeId}{cs:Tl}(a:Blk w g t cs)(j:Nat)(v:Value):Blk (w.setCell ⟨g,j,none⟩ v) g t (cs.set j v):=by have:=heap_setCell_same w g j cs.toArray t v a;simpa [Blk] using this
def Blk.other {w:Tw}{g:Nat}{t:TypeId}{cs:Tl}(b:Blk w g t cs){a:Addr}(v:Value)(c:g≠a.block):Blk (w.setCell a v) g t cs:=(heap_setCell_other w a g v c).trans b
def Blk.alloc {w:Tw}{g:Nat}{t:TypeId}{cs:Tl}(a:Blk w g t cs)(o:Obj):Blk (w.alloc o) g t cs:=a.mono ((Below.refl w.1.size w).alloc (Nat.le_refl _) o) a.lt
def Blk.grown {w w':Tw}{g:Nat}{t:TypeId}{cs:Tl}{row:Option Nat}(a:Blk w g t cs)(b:w.grownBy w' row)(c:some g≠row):Blk w' g t cs:=(b.block g a.lt c).trans a
def Blk.new (w:Tw)(t:TypeId)(cs:Ta):Blk (w.alloc (.cells cs t)) w.1.size t cs.toList:=by simpa [Blk] using heap_alloc_new w (.cells cs t)
def Blk.of_owns {w:Tw}{base k g n:Nat}{x:Tl}(c:w.ownsRow base k 1 (.slice (some ⟨g,0,none⟩) n n) n x):Blk w g k x:=by rcases c.2 with ⟨a,_⟩ | ⟨h,e,f,a,_,d,_,_,i,b⟩;{simp at a};simp only[Value.slice.injEq,Option.some.injEq,Addr.mk.injEq,and_true,true_and]at a;obtain⟨rfl,rfl⟩:=a;rw[List.take_of_length_le (by simp;omega)]at b;rw[<- b];simpa [Blk] using d
def kbj (w:Tw)(a b c d:Obj):Bw w ((((w.alloc a).alloc b).alloc c).alloc d):=((((Below.refl _ w).alloc (Nat.le_refl _) a).alloc (by simp) b).alloc (by simp;omega) c).alloc (by simp;omega) d
def Blk.cell4 {w:Tw}{g:Nat}{t:TypeId}{cs:Tl}(a:Blk w g t cs)(j:Nat)(b c d e:Obj):((((w.alloc b).alloc c).alloc d).alloc e).cell? ⟨g,j,none⟩=cs[j]?:=(a.mono (kbj w b c d e) a.lt).cell j
def Blk.free4 {w:Tw}{g:Nat}{t:TypeId}{cs:Tl}(a:Blk w g t cs)(j:Nat)(b c d e:Obj):((((w.alloc b).alloc c).alloc d).alloc e).frozen? ⟨g,j,none⟩=false:=(a.mono (kbj w b c d e) a.lt).free j
def keo (n:Nat)(f g:Nat->Int):Bool:=decide (∀k,k<n->f k=g k)
def qd9 {n:Nat}{f g:Nat->Int}(b:∀a,a<n->f a=g a):keo n f g=true:=by grind[keo]
def q9q {n:Nat}{f g:Nat->Int}(k:Nat)(b:k<n)(a:¬ f k=g k):keo n f g=false:=by grind[keo]
def qmq {a b:Bool}(c:a=b):Ending.returned (.bool a)=.returned (.bool b):=by rw[c]
def qt9 {k:IntKind}{a b:Int}(c:a=b):Ending.returned (.int k a)=.returned (.int k b):=by rw[c]
def Hi (p:Prop):Prop:=p
def Hi.u {p:Prop}(a:Hi p) :p:=a
def Hi.out {p:Prop}(a:Hi p) :p:=a
def Nq {b:Type}(x:b) :∃a,x=a:=⟨x,rfl⟩
def h_ {p:Prop}(a:p):Hi p:=a
def oB {a b:Prop}(c:a)(d:b):Hi a/\Hi b:=⟨h_ c,h_ d⟩
def oC {a b c:Prop}(d:a)(e:b)(f:c):Hi a/\Hi b/\Hi c:=⟨h_ d,h_ e,h_ f⟩
def oD {a b c d:Prop}(e:a)(f:b)(g:c)(h:d):Hi a/\Hi b/\Hi c/\Hi d:=⟨h_ e,h_ f,h_ g,h_ h⟩
def oG {a b c d e:Prop}(f:a)(g:b)(h:c)(i:d)(j:e):Hi a/\Hi b/\Hi c/\Hi d/\Hi e:=⟨h_ f,h_ g,h_ h,h_ i,h_ j⟩
def oF {a b c d e f:Prop}(g:a)(h:b)(i:c)(j:d)(k:e)(l:f):Hi a/\Hi b/\Hi c/\Hi d/\Hi e/\Hi f:=⟨h_ g,h_ h,h_ i,h_ j,h_ k,h_ l⟩
def bQ {P:Program}{b:Func}{R:Ending->Tw->Prop}{a:Act}{w:Tw}{v:Value}(c:R (.returned v) w)(e:(results b a.tmps).run P w=.ok v w:=by simp[results,go_sem, *])(d:a.defers=[]:=by rfl):bodyPost P b R .ret a w:=bodyPost_ret e d c
def nV (w:Tw)(t:TypeId)(c:Ta):∃a,w.alloc (.cells c t)=a/\Blk a w.1.size t c.toList/\Below w.1.size w a:=⟨_,rfl,Blk.new w t c,(Below.refl _ _).alloc (Nat.le_refl _) _⟩
def nw (w:Tw)(t:TypeId)(c:Ta):∃a,w.alloc (.cells c t)=a/\Hi (Blk a w.1.size t c.toList)/\Hi (Below w.1.size w a):=⟨_,rfl,h_ (Blk.new w t c),h_ ((Below.refl _ _).alloc (Nat.le_refl _) _)⟩
def cQ {P:Program}{f:FuncId}{a:Ta}{w:Tw}{v:Value}{S:Tw->Prop}{Q:Ending->Tw->Prop}(c:Calls P f a w λd b=>d=.returned v/\S b)(g:∀b,S b->Q (.returned v) b):Calls P f a w Q:=c.mono (by rintro d b ⟨rfl,c⟩;exact g b c)
def cZ {P:Program}{f:FuncId}{a:Ta}{w:Tw}{v:Value}{S:Tw->Prop}{Q:Ending->Tw->Prop}{G:Prop}(d:Calls P f a w λc b=>c=.returned v/\S b)(g:∀b,S b->Q (.returned v) b)(t:Hi (Calls P f a w λc b=>c=.returned v/\S b)->Hi (∀b,S b->Q (.returned v) b)->G:=by intro d g;go_wp2_with fail;exact cQ d.u g.u):G:=t (h_ d) (h_ g)
def nB {w W:Tw}{o:Obj}(a:w.alloc o=W):Below w.1.size w W:=by rw[<- a];exact(Below.refl _ _).alloc (Nat.le_refl _) _
def nK {w W:Tw}{t:TypeId}{c:Ta}(a:w.alloc (.cells c t)=W):Blk W w.1.size t c.toList:=by rw[<- a];exact Blk.new w t c
def nJ {w W:Tw}{t:TypeId}{c:Ta}{n:Nat}(a:w.1.size=n)(b:w.alloc (.cells c t)=W):Blk W n t c.toList:=by rw[<- a];exact nK b
def rQ {G A:Prop}(a:A)(t:A->G:=by intro a;go_wp2;go_roundw;(case rel=>exact a);(case measure=>simp[intOf];omega)):G:=t a
def u_ {p:Prop}(a:Hi p):p:=a
def q7q (w:Tw)(m n:Nat):(w.drewN m).drewN n=w.drewN (m+n):=by simp
def q4y (w:Tw)(n:Nat):Bw w (w.drewN n):=⟨rfl,rfl,rfl,Nat.le_refl _,λ_ _=>rfl⟩
theorem q76 {x:Int}(a:-9223372036854775808<=x)(b:x<=9223372036854775807):wrap64 x=x:=by unfold wrap64;omega
def sX {b:Type}(a:List b)(i:Nat)(x:b):a.toArray.setIfInBounds i x=(a.set i x).toArray:=List.setIfInBounds_toArray a i x
def sY {b:Type}{x:b}{c:List b}{a:b}:(x :: c).set 0 a=a :: c:=List.set_cons_zero
def sZ {b:Type}{x:b}{c:List b}{n:Nat}{a:b}:(x :: c).set (n+1) a=x :: c.set n a:=List.set_cons_succ
theorem mB {w w':Tw}{g:Nat}{t:TypeId}{cs:Tl}(a:Hi (Blk w g t cs))(b:Bw w w'):Hi (Blk w' g t cs):=h_ (a.u.mono b a.u.lt)
def mT {a w w':Tw}(b:Hi (Bw a w))(c:Bw w w'):Hi (Bw a w'):=h_ (b.u.trans (c.mono b.u.size))
def nR (n:Nat):n<=n:=Nat.le_refl n
def nZ (n:Nat):0<=n:=Nat.zero_le n
def nL (n:Nat):¬ n<0:=Nat.not_lt_zero n
def bR (b:Nat)(w:Tw):Below b w w:=Below.refl b w
abbrev Yf:=@List.set_cons_zero
abbrev Yg:=@List.set_cons_succ
abbrev Yh:=@beq_eq_false_iff_ne
abbrev Yi:=@List.getElem?_cons_zero
abbrev Yj:=@decide_eq_false
abbrev Yk:=@decide_eq_true
abbrev Yl:=@List.getElem_mem
abbrev Ym:=@List.getElem?_eq_getElem
abbrev Yn:=@List.length_append
abbrev Yo:=@Array.getElem?_eq_some_iff
abbrev Yp:=@World.size_alloc
abbrev Yq:=@Bool.and_eq_true
abbrev Yr:=@Nat.lt_of_lt_of_le
abbrev Ys:=@List.take_succ_eq_append_getElem
abbrev Yt:=@ByteArray.size_append
abbrev Yu:=@if_neg
abbrev Yv:=@decide_eq_true_eq
abbrev Yw:=@List.getElem?_cons_succ
abbrev Yx:=@List.getD_eq_getElem?_getD
abbrev Yy:=@if_pos
abbrev Yz:=@List.length_cons
abbrev Y2:=@List.take_of_length_le
abbrev Y3:=@List.setIfInBounds_toArray
abbrev Y4:=@List.mem_iff_getElem
abbrev Y5:=@Nat.zero_add
abbrev Y6:=@Nat.le_trans
abbrev Y7:=@List.mem_range
abbrev Y8:=@List.all_eq_true
abbrev Y9:=@List.mem_map
abbrev Za:=@List.length_nil
abbrev Zb:=@Bool.true_and
abbrev Zc:=@ByteArray.toList_eq
abbrev Zd:=@of_decide_eq_true
abbrev Ze:=@List.mem_cons_self
abbrev Zf:=@List.length_take
abbrev Zg:=@List.length_eq_zero_iff
abbrev Zh:=@List.range_succ
abbrev Zi:=@Int.natCast_mul
abbrev Zj:=@List.size_toArray
abbrev Zk:=@Bool.or_eq_true
abbrev Zl:=@List.length_reverse
abbrev Zm:=@List.mem_append
abbrev Zn:=@Bool.eq_iff_iff
abbrev Zo:=@Int.cast_ofNat_Int
abbrev Zp:=@List.map_append
abbrev Zq:=@List.map_congr_left
abbrev Zr:=@Nat.pow_le_pow_right
abbrev Zs:=@List.getElem?_set
abbrev Zt:=@Nat.add_zero
abbrev Zu:=@List.mem_cons_of_mem
abbrev Zv:=@Nat.mod_eq_of_lt
abbrev Zw:=@List.length_map
abbrev Zx:=@List.getElem?_map
abbrev Zy:=@Nat.add_mul_mod_self_right
abbrev Zz:=@decide_eq_false_iff_not
abbrev Z2:=@Nat.lt_succ_self
abbrev Z3:=@Nat.div_eq_of_lt
abbrev Z4:=@List.pairwise_iff_getElem
abbrev Z5:=@List.mem_singleton
abbrev Z6:=@Nat.succ_mul
abbrev Z7:=@Option.some.inj
abbrev Z8:=@List.getD_cons_zero
abbrev Z9:=@List.mem_of_mem_take
abbrev Va:=@List.map_cons
abbrev Vb:=@List.cons_append
abbrev Vc:=@Option.some.injEq
abbrev Vd:=@Nat.add_mul_div_right
abbrev Ve:=@List.take_append_drop
abbrev Vf:=@List.getElem?_eq_none
abbrev Vg:=@Nat.le_succ
abbrev Vh:=@List.mem_cons
abbrev Vi:=@Bool.false_ne_true
abbrev Vj:=@Nat.mul_le_mul_right
abbrev Vk:=@List.mem_append_left
abbrev Vl:=@Array.replicate_zero
abbrev Vm:=@Array.replicate_succ
abbrev Vn:=@List.append_toArray
abbrev Vo:=@List.mem_filter
abbrev Vp:=@List.length_filter_le
abbrev Vq:=@List.push_toArray
abbrev Vr:=@List.nil_append
abbrev Vs:=@Int.natCast_add
abbrev Vt:=@Nat.testBit_two_pow
abbrev Vu:=@List.getElem_cons_zero
abbrev Vv:=@List.take_length
abbrev Vw:=@Prod.mk.injEq
abbrev Vy:=@Bool.false_or
abbrev Vz:=@List.drop_eq_getElem_cons
abbrev V7:=@List.nodup_cons
abbrev V8:=@List.append_assoc
abbrev V9:=@List.replicate_zero
abbrev Oa:=@List.replicate_succ
abbrev Ob:=@List.getD_cons_succ
abbrev Oc:=@List.flatMap_append
abbrev Od:=@Nat.lt_of_not_le
abbrev Oe:=@List.any_eq_true
abbrev Of:=@Bool.and_false
abbrev Og:=@Array.getElem?_eq_none
abbrev Oh:=@Nat.lt_of_le_of_lt
abbrev Oi:=@List.filter_append
abbrev Oj:=@Nat.add_mul
abbrev Ok:=@Nat.add_comm
abbrev Ol:=@List.sum_append
abbrev Om:=@List.flatMap_cons
abbrev On:=@List.all_eq_false
abbrev Oo:=@List.count_le_length
abbrev Oq:=@Int.natAbs_neg
abbrev Ot:=@List.mem_reverse
abbrev Ou:=@Nat.mul_comm
abbrev Ov:=@Nat.le_of_eq
abbrev Ow:=@List.map_nil
abbrev Ox:=@List.sum_cons
abbrev Oy:=@Nat.div_le_self
abbrev Oz:=@Bool.false_eq_true
abbrev O0:=@List.getElem?_set_self
abbrev O4:=@Nat.mod_lt
abbrev O5:=@List.length_range
abbrev O8:=@List.ext_getElem?
abbrev O9:=@List.any_eq_false
abbrev Ga:=@Int.toNat_natCast
abbrev Gb:=@Nat.testBit_or
abbrev Gc:=@List.sum_nil
abbrev Gd:=@Bool.true_or
abbrev Ge:=@ByteArray.data_append
abbrev Gf:=@List.not_mem_nil
abbrev Gg:=@List.mem_of_mem_drop
abbrev Gh:=@List.mem_of_getElem?
abbrev Gi:=@List.getElem?_set_ne
abbrev Gj:=@ByteArray.empty.push
abbrev Gk:=@Nat.add_assoc
abbrev Gl:=@Nat.mod_one
abbrev Gm:=@Option.map_some
abbrev Gn:=@List.append_nil
abbrev Gp:=@Int.natCast_pow
abbrev Gq:=@Array.replicate
abbrev Gr:=@List.take_succ_cons
abbrev Gs:=@List.getElem_of_mem
abbrev Gt:=@List.getElem?_range
abbrev Gu:=@Array.length_toList
structure Vx where
 k:Int
 n:Int
 s:Tb
def vv (u:Vx):Value:=.agg #[.int .i64 u.k,.int .i64 u.n,.string u.s]
def kay (c:Int):Vx:=⟨4,c,⟨#[]⟩⟩
def kbz (n:Int):Vx:=⟨1,n,⟨#[]⟩⟩
def kaj (b:Bool):Vx:=⟨2,if b then 1 else 0,⟨#[]⟩⟩
def kbT (s:Tb):Vx:=⟨3,0,s⟩
def kal:Vx:=⟨0,0,⟨#[]⟩⟩
def Cel (w:Tw)(b o:Nat)(u:Vx):Prop:=b<w.1.size/\w.cell? ⟨b,o,none⟩=some (.int .i64 u.k)/\w.cell? ⟨b,o+1,none⟩=some (.int .i64 u.n)/\w.cell? ⟨b,o+2,none⟩=some (.string u.s)
def Cel.mono {w w':Tw}{b o:Nat}{u:Vx}(a:Cel w b o u)(c:Bw w w'):Cel w' b o u :=
 ⟨Yr a.1 c.size,(c.cell a.1).trans a.2.1,(c.cell a.1).trans a.2.2.1,(c.cell a.1).trans a.2.2.2⟩
def eqX (p q:Vx):Bool:=if p.k=q.k then if p.n=q.n then decide (p.s.toList=q.s.toList) else false else false
def kaH (w:Tw)(a:To)(m:Nat)(f:Nat->Vx):Prop:=∀k,k<m->∃b o,a=some ⟨b,o,none⟩/\Cel w b (o+k*3) (f k)
def kaH.mono {w w':Tw}{a:To}{m:Nat}{f:Nat->Vx}(d:kaH w a m f)(e:Bw w w'):kaH w' a m f:=λi h=>by have⟨b,j,c,g⟩:=d i h;exact⟨b,j,c,g.mono e⟩
def ar (op:Int):Int:=if op=2∨op=3∨op=21∨op=22∨op=23∨op=24∨op=25 then 1 else if op=16 then 3 else if 4<=op/\op<=20 then 2 else 0
def qj8 (a:Int):(a=2∨a=3∨a=21∨a=22∨a=23∨a=24∨a=25∨a=16)∨((¬ a=2/\¬ a=3/\¬ a=21/\¬ a=22)/\(¬ a=23/\¬ a=24/\¬ a=25/\¬ a=16)/\(a<4∨(4<=a/\a<=20)∨(4<=a/\20<a))):=by omega
def q8e (a:Int)(w:Tw):Calls prog 177 #[Yb a] w λb c=>b=.returned (Yb (ar a))/\c=w:=by rcases qj8 a with (rfl | rfl | rfl | rfl | rfl | rfl | rfl | rfl) | ⟨⟨h,i,j,k⟩,⟨l,m,n,f⟩,c⟩;(case inr=>have d:¬ (a=2∨a=3∨a=21∨a=22∨a=23∨a=24∨a=25):=(by omega);have e:=f;replace h:(a==2)=false:=Yh.2 h;replace i:(a==3)=false:=Yh.2 i;replace j:(a==21)=false:=Yh.2 j;replace k:(a==22)=false:=Yh.2 k;replace l:(a==23)=false:=Yh.2 l;replace m:(a==24)=false:=Yh.2 m;replace n:(a==25)=false:=Yh.2 n;replace f:(a==16)=false:=Yh.2 f;rcases c with c | ⟨c,g⟩ | ⟨c,g⟩;{have b:ar a=0:=(by rw[ar,Yu d,Yu e,Yu (by omega)]);rw[b];go_enter func177,ntmps177;go_wp2;go_ret;exact⟨rfl,rfl⟩};{have b:ar a=2:=(by rw[ar,Yu d,Yu e,Yy ⟨c,g⟩]);rw[b];go_enter func177,ntmps177;go_wp2;go_ret;exact⟨rfl,rfl⟩};have b:ar a=0:=(by rw[ar,Yu d,Yu e,Yu (by omega)]);rw[b];go_enter func177,ntmps177;go_wp2;go_ret;exact⟨rfl,rfl⟩);all_goals ( go_enter func177,ntmps177;go_wp2;go_ret;exact⟨rfl,rfl⟩)
