import Derived.Test.YtjbkfdeldlajhaaGreatDoorM38
set_option linter.unusedSimpArgs false
namespace Go.Proofs.YtjbkfdeldlajhaaGreatDoor
set_option maxRecDepth 100000
set_option maxHeartbeats 4000000
open Go.RowKit Go.Shelf Go.Proofs.Tryz
open Option renaming none->Y,some->V
open Go.Value renaming int->Z,slice->J,pointer->X,bool->ao,tuple->bt
open Go.IntKind renaming i64->U
open Go.Obj renaming cells->I
open Go renaming World->ab,Calls->ba
open Go.Ending renaming returned->ay
theorem Dx(R:aM)(d:Bool)(a b:Int)(w:ab)(h:aY w R)(a1:R.all.length<100000000000)(hb:R.there b=true)(Q:d=true\/R.there a=true)(hf:d=true/\a=0\/d=false/\a<b)(hj:4<=R.aC.length\/1000<(R.ie d a b).length):ba prog 48 #[X (V ⟨R.b,0,Y⟩),ao d,Z U a,Z U b] w λe w'=>e=ay (bt #[Z U 0,Z U 3])/\aa n_ w w':=by
 have N:=E (gJ R b w h);have HA:=E (gJ R a w h);rw[hb]at N;obtain⟨T,P,K,hm,sa⟩:=h.aC.form;have c6:w.cell? ⟨R.b,6,Y⟩=V (J T R.aC.length P):=(h.cell 6).trans (by rw[<-K];rfl);have a0:=h.blt;have n:=E (λW (hW:aa n_ w W) (f t:Int)=>ph R f t W (h.ai hW k_) (by omega));have s:=E (λW v l (hv:fE W v l) (hl:l.length<1000000000000)=>kS v l W hv hl);have r:=E (λf t=>gC R.all f t);have L:=E hj;unfold maxLen at hm;clear h hb K sa hj;generalize R.there a=ta at*;generalize R.aC.length=m at*;go_enter func48,ntmps48;go_wp2_with fail;refine N.o.mono ?_;rintro e w1 ⟨rfl,rfl⟩;go_wp2_with fail;refine HA.o.mono ?_;rintro e g ⟨rfl,rfl⟩;clear HA N;rcases hf with⟨rfl,rfl⟩|⟨rfl,hn⟩
 ·have u:QS (aa n_ g (g.alloc (I #[ao true,Z U 0,Z U b,J Y 0 0] 28))):=aa.alloc _ _ _;clear Q;go_wp2_with fail;refine(n.o _ u.o (-1) b).mono ?_;rintro e w3 ⟨v3,rfl,M⟩;have G:=E (s.o w3 v3 _ M.row (by have:=r.o (-1) b;omega));obtain⟨o3,c3,rfl,-,-⟩:=M.row.form;have F:=E M;clear M;go_wp2_with fail;refine G.o.mono ?_;rintro e q ⟨v4,rfl,B⟩;obtain⟨C,x,rfl,A,-⟩:=B.row.form;have o:aa n_ (g.alloc (I #[ao true,Z U 0,Z U b,J Y 0 0] 28)) q:=F.o.keep.tr B.keep i_;have c:=bO o id;have y3:=ae c 3;have f3:=aj c 3;simp at y3;have y:=(u.o.tr o i_).cell (p:=⟨R.b,6,Y⟩) c6 id;have k:=ak (i:=3) c (J C (bc (aT R.all (-1) b)).length x);have z3:=ae k 3;simp at z3;have d6:(q.setCell ⟨g.heap.size,3,Y⟩ (J C (bc (aT R.all (-1) b)).length x)).cell? ⟨R.b,6,Y⟩=V (J T m P):=(aa.setCell q ⟨g.heap.size,3,Y⟩ _).cell y (λe=>by have e':R.b=g.heap.size:=e;omega);have D:QS (aa n_ g (q.setCell ⟨g.heap.size,3,Y⟩ (J C (bc (aT R.all (-1) b)).length x))):=(u.o.tr o i_).st (.inl (eb _)) _;have j:QS (4<=m\/1000<(bc (aT R.all (-1) b)).length):=L.o;unfold maxLen at A;clear B o c k L G F n s r;generalize (bc (aT R.all (-1) b)).length=rl at*;by_cases H:4<=m
  ·have z:(4:Int)<=(m:Int):=by omega
   clear j H;go_wp2;go_ret2;exact⟨rfl,D.o⟩
  ·have z:¬(4:Int)<=(m:Int):=by omega
   have S:(1000:Int)<(rl:Int):=by rcases j.o with h|h<;>omega
   clear j H;go_wp2;go_ret2;exact⟨rfl,D.o⟩
 ·obtain rfl:ta=true:=by
   rcases Q with h|h
   ·cases h
   ·exact h
  have u:QS (aa n_ g (g.alloc (I #[ao false,Z U a,Z U b,J Y 0 0] 28))):=aa.alloc _ _ _;clear Q;go_wp2_with fail;refine(n.o _ u.o a b).mono ?_;rintro e q ⟨v4,rfl,B⟩;obtain⟨C,x,rfl,A,-⟩:=B.row.form;have o:aa n_ (g.alloc (I #[ao false,Z U a,Z U b,J Y 0 0] 28)) q:=B.keep;have c:=bO o id;have y3:=ae c 3;have f3:=aj c 3;simp at y3;have y:=(u.o.tr o i_).cell (p:=⟨R.b,6,Y⟩) c6 id;have k:=ak (i:=3) c (J C (aT R.all a b).length x);have z3:=ae k 3;simp at z3;have d6:(q.setCell ⟨g.heap.size,3,Y⟩ (J C (aT R.all a b).length x)).cell? ⟨R.b,6,Y⟩=V (J T m P):=(aa.setCell q ⟨g.heap.size,3,Y⟩ _).cell y (λe=>by have e':R.b=g.heap.size:=e;omega);have D:QS (aa n_ g (q.setCell ⟨g.heap.size,3,Y⟩ (J C (aT R.all a b).length x))):=(u.o.tr o i_).st (.inl (eb _)) _;have j:QS (4<=m\/1000<(aT R.all a b).length):=L.o;unfold maxLen at A;clear B o c k L n s r;generalize (aT R.all a b).length=rl at*;by_cases H:4<=m
  ·have z:(4:Int)<=(m:Int):=by omega
   clear j H;go_wp2;go_ret2;exact⟨rfl,D.o⟩
  ·have z:¬(4:Int)<=(m:Int):=by omega
   have S:(1000:Int)<(rl:Int):=by rcases j.o with h|h<;>omega
   clear j H;go_wp2;go_ret2;exact⟨rfl,D.o⟩
end Go.Proofs.YtjbkfdeldlajhaaGreatDoor
