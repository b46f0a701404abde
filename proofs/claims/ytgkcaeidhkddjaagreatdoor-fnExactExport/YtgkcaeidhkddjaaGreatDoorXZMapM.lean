import Derived.Test.YtgkcaeidhkddjaaGreatDoorXGFm
import Derived.Maps.OwnSet
namespace Go.Proofs.YtgkcaeidhkddjaaGreatDoor
open Go
def kl (x:ByteArray):Lit:=.string (sb x)
theorem kl_inj {x y:ByteArray} (h:kl x=kl y):x=y:=by
 unfold kl sb at h
 simp only [Lit.string.injEq] at h
 obtain ⟨⟨a⟩⟩:=x
 obtain ⟨⟨b⟩⟩:=y
 simp at h
 rw [h]
def mpR:List ByteArray->DataW Unit
 | []=>.map []
 | x :: r=>(mpR r).put (kl x) (.lit (.int .i64 (r.length:Int)))
def mp (l:List ByteArray):DataW Unit:=mpR l.reverse
theorem qjh (l:List ByteArray) (x:ByteArray):mp (l++[x])=(mp l).put (kl x) (.lit (.int .i64 (l.length:Int))):=by
 unfold mp
 rw [List.reverse_append]
 simp [mpR]
theorem qgr (r:List ByteArray):Maps.Tidy (mpR r):=by
 induction r with
 | nil=>exact Maps.tidy_empty
 | cons x r ih=>exact ih.put (show WideAt.IsKeyLit (kl x) from trivial) _
theorem qih (r:List ByteArray) (x:ByteArray):Maps.has (mpR r) (kl x)=memB x r:=by
 induction r with
 | nil=>rfl
 | cons y r ih =>
  by_cases h:x=y
  . subst h
    rw [show mpR (x :: r)=(mpR r).put (kl x) (.lit (.int .i64 (r.length:Int))) from rfl,Maps.has_put_same (qgr r).isMap (show WideAt.IsKeyLit (kl x) from trivial)]
    exact ((qf3 _ _).2 List.mem_cons_self).symm
  . rw [show mpR (y :: r)=(mpR r).put (kl y) (.lit (.int .i64 (r.length:Int))) from rfl,Maps.has_put_other (fun hc=>h (kl_inj hc)),ih]
    unfold memB
    rw [List.any_cons,decide_eq_false (fun e=>h e.symm),Bool.false_or]
theorem qgd (r:List ByteArray):Maps.size (mpR r)<=r.length/\(Maps.size (mpR r)=r.length ↔ r.Nodup):=by
 induction r with
 | nil=>exact ⟨nR _,by simp [mpR,Maps.size]⟩
 | cons x r ih =>
  rw [show mpR (x :: r)=(mpR r).put (kl x) (.lit (.int .i64 (r.length:Int))) from rfl,Maps.size_put (qgr r),qih]
  rw [List.nodup_cons,List.length_cons]
  by_cases h:x ∈ r
  . rw [if_pos ((qf3 _ _).2 h)]
    exact ⟨by omega,⟨fun hc=>by omega,fun hc=>absurd h hc.1⟩⟩
  . rw [if_neg (by rw [qjb h];simp)]
    exact ⟨by omega,⟨fun hc=>⟨h,ih.2.1 (by omega)⟩,fun hc=>by rw [ih.2.2 hc.2]⟩⟩
theorem has_mp (l:List ByteArray) (x:ByteArray):Maps.has (mp l) (kl x)=memB x l:=by
 unfold mp
 rw [qih,Bool.eq_iff_iff,qf3,qf3]
 simp
theorem qkg (l:List ByteArray):Maps.size (mp l)<=l.length/\(Maps.size (mp l)=l.length ↔ l.Nodup):=by
 unfold mp
 have h:=qgd l.reverse
 rw [List.length_reverse] at h
 exact ⟨h.1,h.2.trans ⟨fun x=>by simpa using (List.Perm.nodup_iff (List.reverse_perm l)).1 x,fun x=>(List.Perm.nodup_iff (List.reverse_perm l)).2 x⟩⟩
end Go.Proofs.YtgkcaeidhkddjaaGreatDoor
