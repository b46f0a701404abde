import Derived.Test.YtmdjbldpclbkhaaGreatDoorW42
import Derived.Test.YtmdjbldpclbkhaaGreatDoorW45
import Derived.Test.YtmdjbldpclbkhaaGreatDoorW44
set_option linter.all false
namespace Go.Proofs.YtmdjbldpclbkhaaGreatDoor
open Value renaming slice->Sl,string->St,bool->Bo
open Obj renaming cells->Cl
open Ending renaming returned->Rt
open Go Go.RowKit Go.Proofs.Tryz
def kih (b:Nat)(f:Nat->Nat)(g:b<=1048576):SpoX b f:=λd r j t c i h a e=>by have q:tkD b f (d+1) c.F.length<c.F.length:=kaC g fP e (by have:=a.fl;omega);have s:tkD b f (d+2) c.F.length<c.F.length:=kaC g fP e (by have:=a.fl;omega);refine⟨_,⟨qfn a i h (tkD b f d 20) (tkD b f (d+1) c.F.length) (tkD b f (d+2) c.F.length) s q,by show(List.set _ _ _).length<=1000;rw[Oy];have:=a.fl;omega⟩,λz l n m v w x y k p o u=>?_⟩;exact qfm b f g d r c j _ t _ a.ll i rfl a.pl a.rl h rfl a.fl e (λd c=>Yx (a.fs d c).bs.1 h) _ _ _ rfl rfl rfl z l n p m o v w x y k u
def OutX (w:Tw)(m:Fm)(L:List Ex)(r:Int)(e:Ending)(w':Tw):Prop:=∃A a c,e=Rt (.tuple #[mV m A,Sl a L.length c,.int .i64 r])/\MSl w' m A/\kcQ m A/\kcB w' a L.length (λj=>L.getD j zE)/\Bw w w'
def kfe {k p N i n:Nat}{f:Nat->Nat}{D:Nat->Int->Vx × Nat}{m:Fm}(g:k<=1048576)(e:DvF k f D)(h:kbK N i m)(l:1<=i/\i<=1000)(j:p+7*n<=800000):(lgD k f D m p (lgN m n)).1.length<=n/\(lgD k f D m p (lgN m n)).2<=p+7*n/\∀a,a∈(lgD k f D m p (lgN m n)).1->LgE m a:=by by_cases a:(inF m m.F.length).length=0;{rw[show lgN m n=0 from Y6 a];exact⟨nZ _,Nat.le_add_right _ _,λ_ b=>by cases b⟩};rw[show lgN m n=n from Y2 a];obtain⟨b,c,d⟩:=keg (p:=p) g e h l a n j;exact⟨Oq b,c,d⟩
def LgF (L:List Ex):Prop:=(L.length<=31∨(L.length<=4001/\∀x,x∈L->x.v=kaQ))/\∀x,x∈L->kcW x
def qp9 {m:Fm}{x:Ex}(a:LgE m x):kcW x:=⟨Yx a.2.2.1 fS,a.2.2.2⟩
