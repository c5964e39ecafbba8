import Derived.Test.YtjbkfdeldlajhaaGreatDoorM17
set_option linter.unusedSimpArgs false
namespace Go.Proofs.YtjbkfdeldlajhaaGreatDoor
set_option maxRecDepth 100000
set_option maxHeartbeats 4000000
open Go.RowKit Go.Shelf Go.Proofs.Tryz
open Option renaming none->Y,some->V
open Go.Value renaming int->Z,string->O,slice->J,pointer->X,bool->ao,tuple->bt
open Go.IntKind renaming i64->U
open Go.Obj renaming cells->I
open Go renaming World->ab,Value->ax,Calls->ba
open Go.Ending renaming returned->ay
theorem KN(R:aM)(id:Int)(r:an)(k:Nat)(x:iY)(w:ab)(h:aY w R)(hl:R.af.length<100000000000)(hf:fc R.af id=V k)(hx:R.af[k]?=V x)(hk:r.key.size<=maxLen)(hv:r.value.size<=maxLen)(P:dw r.key=true)(Q:fM r.value=true)(hw:x.ar.length<1000000000000)(D:(cV x.ar r.key).isSome=true\/x.ar.length<30):ba prog 27 #[X (V ⟨R.b,0,Y⟩),Z U id,r.val] w λe H=>e=ay (Z U 0)/\∃v,kn 128 R (R.wrote k x v (aS x.ar r)) w H:=by
 obtain⟨a,n,A⟩:=r;simp only[an.val];simp only at hk hv P Q D;obtain⟨s,T⟩:∃s,s=w.alloc (I #[O a,O n,ao A] 70):=⟨_,rfl⟩
 have y:aa n_ w s:=T▸aa.alloc _ _ _;have C:aY s R:=h.ai y k_;have F:s.heap[w.heap.size]?=V (I #[O a,O n,ao A] 70 (0,0)):=T▸az w _;have hc:=fj R id s C (by omega);rw[hf]at hc;have HC:=E hc;have a1:QS (∀W,ba prog 69 #[O a] W λe H=>e=ay (ao (dw a))/\H=W):=λW=>nY a W hk;have a2:QS (∀W,ba prog 73 #[O n] W λe H=>e=ay (ao (fM n))/\H=W):=λW=>nZ n W hv;rw[P]at a1;rw[Q]at a2;have b5:¬((k:Int)<0):=by omega
 have G:x∈R.af:=hH hx;have b3:k<R.af.length:=(ej.1 hx).1;obtain⟨oa,ca,d,hm,sa⟩:=C.af.form;obtain⟨g,rfl⟩:=sa (by omega);have HH:=E C;have b2:=E d;have l:=C.af;rw[d]at l;obtain⟨f,c,b,-,-⟩:=Row.form (C.ar x G);have j:∀W,aa n_ s W->W.cell? ⟨R.b,3,Y⟩=V (J (V ⟨g,0,Y⟩) R.af.length ca)/\W.cell? ⟨g,k*3+2,Y⟩=V (J f x.ar.length c)/\W.cell? ⟨w.heap.size,0,Y⟩=V (O a)/\W.cell? ⟨w.heap.size,1,Y⟩=V (O n)/\W.cell? ⟨w.heap.size,2,Y⟩=V (ao A):=λW u=>by refine⟨u.cell (p:=⟨R.b,3,Y⟩) ((C.cell 3).trans (by rw[<-d];rfl)) (λh=>h),?_,u.cell (p:=⟨w.heap.size,0,Y⟩) (ae F 0) (λh=>h),u.cell (p:=⟨w.heap.size,1,Y⟩) (ae F 1) (λh=>h),u.cell (p:=⟨w.heap.size,2,Y⟩) (ae F 2) (λh=>h)⟩;obtain⟨d0,d1,d2⟩:=pX l u hx;rw[b]at d2;exact d2
 have i:QS (∀W,aa n_ s W->ba prog 70 #[J f x.ar.length c,O a] W λe H=>e=ay (bt #[((cV x.ar a).getD an.zero).val,ao (cV x.ar a).isSome])/\aa n_ W H):=λW u=>by exact rX (J f x.ar.length c) x.ar a W (b▸Row.ai (C.ar x G) u k_) hw
 have a3:QS (∀W,aa n_ s W->ba prog 74 #[J f x.ar.length c,.agg #[O a,O n,ao A]] W λe H=>∃v',e=ay v'/\jg W H v' (aS x.ar ⟨a,n,A⟩)):=λW u=>
  lD (J f x.ar.length c) x.ar ⟨a,n,A⟩ W (b▸Row.ai (C.ar x G) u k_) hw
 have a7:QS (∀W,aa n_ s W->W.frozen? ⟨g,k*3+2,Y⟩=false):=λW u=>(l.ai u k_).frozenAt _;have K:QS (∀(w3:ab) (v:ax),aa n_ s w3->fE w3 v (aS x.ar ⟨a,n,A⟩)->(∀q,v.ownBlock=V q->s.heap.size<=q)->kn 128 R (R.wrote k x v (aS x.ar ⟨a,n,A⟩)) w (w3.setCell ⟨g,k*3+2,Y⟩ v)):=λw3 v a8 b0 a9=>
  aY.Kl h (y.tr a8 i_) d hx b0 (λq hq=>mA y.size (a9 q hq))
 obtain⟨⟨zk,zv,zg⟩,hz⟩:∃z,z=(cV x.ar a).getD an.zero:=⟨_,rfl⟩
 obtain⟨a0,ho⟩:∃o,o=(cV x.ar a).isSome:=⟨_,rfl⟩
 rw[<-hz,<-ho]at i;rw[<-ho]at D;simp only[an.val]at i;have c3:w.cell? ⟨R.b,3,Y⟩=V (J (V ⟨g,0,Y⟩) R.af.length ca):=(h.cell 3).trans (by rw[<-d];rfl);have c2:w.cell? ⟨g,k*3+2,Y⟩=V (J f x.ar.length c):=by have a6:=h.af;rw[d]at a6;obtain⟨d0,d1,d2⟩:=pX a6 (aa.refl _ w) hx;rw[b]at d2;exact d2
 have l1:R.b<w.heap.size:=World.block_lt_of_cell? _ _ c3;have l2:g<w.heap.size:=World.block_lt_of_cell? _ _ c2;have b6:¬(w.heap.size+1=R.b):=by omega
 have b7:¬(w.heap.size+1=g):=by omega
 have b8:¬(R.b=w.heap.size+1):=by omega
 have b9:¬(g=w.heap.size+1):=by omega
 have B:=E j;have b1:=E y;have a5:a0=true\/(x.ar.length:Int)<30:=D.elim .inl (λh=>.inr (by omega));obtain⟨LP,a4⟩:∃L,L=aS x.ar ⟨a,n,A⟩:=⟨_,rfl⟩
 rw[<-a4]at a3 K⊢;unfold maxLen at hm;clear hc h hf hk hv C l b d j hx G F y D P Q sa hz ho a4;subst T;generalize x.ar.length=wl at*;go_enter func27,ntmps27;go_upto_region 8 with(first|(go_at_call 68;go_must(refine(HC.o).mono ?_;rintro e w1 ⟨rfl,rfl⟩;simp only[rZ]))|(go_at_call 69;go_must(refine(a1.o _).mono ?_;rintro e w1 ⟨rfl,rfl⟩))|(go_at_call 73;go_must(refine(a2.o _).mono ?_;rintro e w1 ⟨rfl,rfl⟩)))
 go_cut [11] (λo wc=>o=ao a0/\aa n_ (w.alloc (I #[O a,O n,ao A] 70)) wc)
 case first=>
  go_region_held3(λW=>W.cell? ⟨R.b,3,Y⟩=V (J (V ⟨g,0,Y⟩) R.af.length ca)/\W.cell? ⟨g,k*3+2,Y⟩=V (J f wl c)/\W.cell? ⟨w.heap.size,0,Y⟩=V (O a)) (go_keep) (first|(go_at_call 70;refine(i.o _ (aa.drew _ _)).mono ?_;rintro e w2 ⟨rfl,m⟩;have t:=E ((aa.drew n_ _).tr m i_);obtain⟨q3,q2,q4,q5,q6⟩:=B.o _ t.o;have m1:=World.block_lt_of_cell? _ _ q3;have m2:=World.block_lt_of_cell? _ _ q2;have m3:=World.block_lt_of_cell? _ _ q4;clear m)|(go_at_call 70;refine(i.o _ ((aa.refl _ _).al _).dr).mono ?_;rintro e w2 ⟨rfl,m⟩;have t:=E (((aa.refl n_ _).al _).dr.tr m i_);obtain⟨n0,n1,n2,o0,o1,o2⟩:=bQ (Qa m);obtain⟨q3,q2,q4,q5,q6⟩:=B.o _ t.o;have m1:=World.block_lt_of_cell? _ _ q3;have m2:=World.block_lt_of_cell? _ _ q2;have m3:=World.block_lt_of_cell? _ _ q4;clear m));all_goals
   go_wp2_with fail;go_meet;first
   |exact⟨rfl,t.o.al _⟩
   |exact⟨rfl,((t.o.st (.inl (by simp)) _).st (.inl (by simp)) _).st (.inl (by simp)) _⟩
 case rest=>
  obtain⟨rfl,S⟩:=hcut;obtain⟨q3,q2,q4,q5,q6⟩:=B.o _ S;have N:=E S;have m1:=World.block_lt_of_cell? _ _ q3;have m2:=World.block_lt_of_cell? _ _ q2;have m3:=World.block_lt_of_cell? _ _ q4;clear S c3 c2;cases a0;case' false=>have b4:=a5.resolve_left (by decide)
  all_goals
   clear a5;go_wp2_with fail;go_region_with(go_at_call 74;go_must(refine(a3.o _ N.o.dr).mono ?_;rintro e w3 ⟨v',rfl,hM⟩;obtain⟨ov,cv,rfl,-,-⟩:=hM.row.form;have HM:=E hM;have M:=E (N.o.dr.tr hM.keep i_);obtain⟨t3,t2,t4,t5,t6⟩:=B.o _ M.o;have t7:=a7.o _ M.o;clear hM))
   all_goals
    go_wp2;go_ret;exact⟨rfl,_,K.o _ _ M.o HM.o.row (λq hq=>mA N.o.dr.size (HM.o.own q hq))⟩
end Go.Proofs.YtjbkfdeldlajhaaGreatDoor
