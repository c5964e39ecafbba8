import Derived.Test.YtjbkfdeldlajhaaGreatDoorM39
set_option linter.unusedSimpArgs false
namespace Go.Proofs.YtjbkfdeldlajhaaGreatDoor
set_option maxRecDepth 100000
set_option maxHeartbeats 8000000
open Go.RowKit Go.Shelf Go.Proofs.Tryz
open Option renaming none->Y,some->V
open Go.Value renaming int->Z,string->O,slice->J,pointer->X,bool->ao,tuple->bt
open Go.IntKind renaming i64->U
open Go.Obj renaming cells->I
open Go renaming World->ab,Value->ax,Calls->ba
open Go.Ending renaming returned->ay
theorem Ni(l:List ByteArray):l.flatMap eh=l.map O:=by
 induction l with
 |nil=>rfl
 |cons p l ih=>rw[Rh,ih];rfl
def pL(c:Bool)(a b:Int):Int:=if c=true then b else a
def aM.Aj(R:aM)(v:ax)(x:ko):aM:={R with vc:=v,aC:=R.aC++[x],aB:=R.aB+1}
def Ed(R:aM)(c:Bool)(a b:Nat)(w:ab)(e:Ending)(d:ab):Prop:=e=ay (bt #[Z U (R.aB+1),Z U 0])/\∃v x,x.id=R.aB+1/\x.least=pL c a b/\x.pieces=bI c a b (R.ie c a b)/\kn 193 R (R.Aj v x) w d
theorem Ko(R:aM)(c:Bool)(a b:Nat)(w:ab)(h:aY w R)(d1:R.all.length<100000000000)(hb:R.there (b:Int)=true)(ha:c=true\/R.there (a:Int)=true)(hf:c=true/\a=0\/c=false/\a<b)(d3:b<=1000000000)(h4:R.aC.length<4)(a6:(R.ie c a b).length<=1000)(a7:Small (R.ie c a b))(f8:0<=R.aB/\R.aB<=1000000000000):ba prog 48 #[X (V ⟨R.b,0,Y⟩),ao c,Z U (a:Int),Z U (b:Int)] w (Ed R c a b w):=by
 have HB:=E (gJ R b w h);have HA:=E (gJ R a w h);rw[hb]at HB;obtain⟨oa,ca,c1,hm,sa⟩:=h.aC.form;have c6:w.cell? ⟨R.b,6,Y⟩=V (J oa R.aC.length ca):=(h.cell 6).trans (by rw[<-c1];rfl);have y:w.cell? ⟨R.b,7,Y⟩=V (Z U R.aB):=h.cell 7;have f2:=h.blt;have a0:=E (λW (hW:aa n_ w W) (f t:Int)=>ph R f t W (h.ai hW k_) (by omega));have b7:=E (λW v l (hv:fE W v l) (hl:l.length<1000000000000)=>kS v l W hv hl);have b2:=E (λf t=>gC R.all f t);have HH:=E h;have HV:=E c1;have H4:=E h4;have b1:=E d3;have e3:=E d1;obtain⟨i0,hi,e9,f0,f1⟩:=info_parts Tryz.LX;unfold maxLen at hm;have f4:(R.aC.length:Int)<4:=by omega
 clear h hb c1 sa h4 d3 d1;go_enter func48,ntmps48;go_wp2_with fail;refine HB.o.mono ?_;rintro e w1 ⟨rfl,rfl⟩;go_wp2_with fail;refine HA.o.mono ?_;rintro e n ⟨rfl,rfl⟩;clear HA HB;refine Or.elim hf ?c ?delta;case' c=>
  rintro⟨rfl,rfl⟩;have HW:QS (aa n_ n (n.alloc (I #[ao true,Z U 0,Z U (b:Int),J Y 0 0] 28))):=aa.alloc _ _ _;have q:QS ((bc (aT R.all (-1) b)).length<=1000):=a6;have F:QS (Small (bc (aT R.all (-1) b))):=a7;clear ha hf a6 a7;generalize R.there ((0:Nat):Int)=ta at*;go_wp2_with fail;refine(a0.o _ HW.o (-1) b).mono ?_;rintro e w3 ⟨v3,rfl,m3⟩;have d0:=E (b7.o w3 v3 _ m3.row (by have:=b2.o (-1) b;have:=e3.o;omega));obtain⟨o3,c3,rfl,-,-⟩:=m3.row.form;have b5:=E m3;clear m3;go_wp2_with fail;refine d0.o.mono ?_;rintro e B ⟨v4,rfl,P⟩;obtain⟨A,c4,rfl,d8,-⟩:=P.row.form;have k4:aa n_ (n.alloc (I #[ao true,Z U 0,Z U (b:Int),J Y 0 0] 28)) B:=b5.o.keep.tr P.keep i_;have N:=bO k4 id;have b3:QS (aa n_ n B):=HW.o.tr k4 i_;have b6:QS (∀W,aa (λk=>k=R.b\/k=n.heap.size) B W->cG W A (bc (aT R.all (-1) b))):=λW K=>cG.ofRow (P.row.ai K (λg m e=>by have:=P.own g m;have:=b5.o.keep.size;simp at this;omega))
  have e8:((bc (aT R.all (-1) b)).length:Int)<=1000:=by have:=q.o;omega
  have HP:=E (λW hr=>my true 0 b A c4 (bc (aT R.all (-1) b)) W hr q.o F.o (by omega) b1.o);clear P d0 b5 a0 b7 b2 q F HW k4;have a8:QS (bI true 0 b (bc (aT R.all (-1) b))=bI true 0 b (R.ie true (0:Nat) b)):=E rfl;obtain⟨Q,a2⟩:∃Q:Int,QS (Q=pL true (0:Nat) b):=⟨_,E rfl⟩
  have c0:Q=b:=a2.o;generalize bI true 0 b (bc (aT R.all (-1) b))=zw at*;generalize bc (aT R.all (-1) b)=d at*
 case' delta=>
  rintro⟨rfl,hn⟩;obtain e1:R.there (a:Int)=true:=ha.resolve_left (by simp);rw[e1];have f7:(a:Int)<b:=by omega
  have e2:QS (a<=1000000000):=by have:=b1.o;show _<=_;omega
  have HW:QS (aa n_ n (n.alloc (I #[ao false,Z U (a:Int),Z U (b:Int),J Y 0 0] 28))):=aa.alloc _ _ _;have q:QS ((aT R.all a b).length<=1000):=a6;have F:QS (Small (aT R.all a b)):=a7;clear ha hf a6 a7 e1 hn;go_wp2_with fail;refine(a0.o _ HW.o a b).mono ?_;rintro e B ⟨v4,rfl,P⟩;obtain⟨A,c4,rfl,d8,-⟩:=P.row.form;have k4:aa n_ (n.alloc (I #[ao false,Z U (a:Int),Z U (b:Int),J Y 0 0] 28)) B:=P.keep;have N:=bO k4 id;have b3:QS (aa n_ n B):=HW.o.tr k4 i_;have b6:QS (∀W,aa (λk=>k=R.b\/k=n.heap.size) B W->cG W A (aT R.all a b)):=λW K=>cG.ofRow (P.row.ai K (λg m e=>by have:=P.own g m;simp at this;omega))
  have e8:((aT R.all a b).length:Int)<=1000:=by have:=q.o;omega
  have HP:=E (λW hr=>my false a b A c4 (aT R.all a b) W hr q.o F.o e2.o b1.o);clear P a0 b7 b2 q F HW k4;have a8:QS (bI false a b (aT R.all a b)=bI false a b (R.ie false a b)):=E rfl;obtain⟨Q,a2⟩:∃Q:Int,QS (Q=pL false a b):=⟨_,E rfl⟩
  have c0:Q=a:=a2.o;generalize bI false a b (aT R.all a b)=zw at*;generalize aT R.all a b=d at*
 all_goals
  have y3:=ae N 3;have f3:=aj N 3;simp at y3;have c2:=ak (i:=3) N (J A d.length c4);have M:=b3.o.st (p:=⟨n.heap.size,3,Y⟩) (.inl (eb _)) (J A d.length c4);have d6:=M.cell (p:=⟨R.b,6,Y⟩) c6 id;have d7:=M.cell (p:=⟨R.b,7,Y⟩) y id;have u:=E (HH.o.ai M k_);have g7:(B.setCell ⟨n.heap.size,3,Y⟩ (J A d.length c4)).frozen? ⟨R.b,7,Y⟩=false:=u.o.frozen 7;have z3:=ae c2 3;simp at z3;have b8:=E c2;have c8:=E M;have a9:QS (∀W,aa (λk=>k=R.b) (B.setCell ⟨n.heap.size,3,Y⟩ (J A d.length c4)) W->cG W A d):=λW K=>b6.o W (((aa.setCell B ⟨n.heap.size,3,Y⟩ _).mono (λ_ _ h=>.inr h)).tr K (λ_ h=>.inl h));unfold maxLen at d8;clear N c2 M c6 y b3 b6;go_upto_region 16 with fail;have a5:=ak (i:=7) u.o.top (Z U (R.aB+1));have G:=aa.setCell (B.setCell ⟨n.heap.size,3,Y⟩ (J A d.length c4)) ⟨R.b,7,Y⟩ (Z U (R.aB+1));have H:=(G.block n.heap.size (lg b8.o) (λe=>by have e':n.heap.size=R.b:=e;omega)).trans b8.o;have b9:=u.o.aC.ai G (λg m e=>(u.o.aC.aR m).ne (e':=40) (by decide) ⟨_,(show g=R.b from e)▸u.o.top⟩);rw[HV.o]at b9;have b4:=E (c8.o.mono (T:=λk=>k=R.b) (λ_ _ h=>h.elim)|>.tr G i_);have c9:=E (λW (K:aa n_ _ W)=>a9.o W (G.tr K (λ_ h=>h.elim)));generalize (B.setCell ⟨n.heap.size,3,Y⟩ (J A d.length c4)).setCell ⟨R.b,7,Y⟩ (Z U (R.aB+1))=w6 at*;have a3:=E a5;have D:=E b9;have p6:w6.cell? ⟨R.b,6,Y⟩=V (J oa R.aC.length ca):=(ae a5 6).trans (by rw[<-HV.o];rfl);have p7:w6.cell? ⟨R.b,7,Y⟩=V (Z U (R.aB+1)):=ae a5 7;have x0:=ae H 0;have x1:=ae H 1;have x2:=ae H 2;have x3:=ae H 3;simp at x0 x1 x2 x3;clear d6 d7 g7 z3 y3 f3 u b8 c8 a9 a5 G H b9;have e4:QS (∀W w8:ab,aa n_ w6 W->∀o,(W.alloc o).grownBy w8 (J oa R.aC.length ca).ownBlock->w8.heap[R.b]?=V (I (R.top.setIfInBounds 7 (Z U (R.aB+1))) 40 (0,0))):=λW w8 K o m=>by have d5:=(lg a3.o);have z:=K.al o;rw[(aa.grown m).block R.b (kz d5 z.size) (λe=>(D.o.aR e.symm).ne (e':=40) (by decide) ⟨_,a3.o⟩),z.block _ d5 id];exact a3.o
  have e7:R.b<w6.heap.size:=(lg a3.o);go_region_law(first
   |(refine bV _ (by rfl) _ _ 38 (by rfl) 193 i0 _ 3 40 Tryz.underlying38 hi e9 f0 f1 (by rfl) (J oa R.aC.length ca) R.aC.length _ (by rfl) (D.o.ai (a1.o.al _) k_) ⟨w7.heap.size,0,Y⟩ 1 1 [Z U (R.aB+1),Z U _,J S zw.length y] (by rfl) (by rfl) (br w7 #[Z U (R.aB+1),Z U _,J S zw.length y] _) (by simp[Value.oneCell']) (by have:=H4.o;unfold maxLen;omega) (by have:=H4.o;omega) ?_;intro v' w8 r j _ d2;obtain⟨g',s,rfl⟩:=r.succ;have C:=E (e4.o w7 _ a1.o _ j);have e5:=E ((a1.o.al _).mono (T:=λk=>V k=Value.ownBlock (J oa R.aC.length ca)) (λ_ _ h=>h.elim)|>.tr (aa.grown j) i_);have c5:=E ((aa.alloc (λk=>V k=Value.ownBlock (J oa R.aC.length ca)) w7 _).tr (aa.grown j) i_);have HO:=E r;have HA:=E d2;have s6:w8.cell? ⟨R.b,6,Y⟩=V (J oa R.aC.length ca):=(ae C.o 6).trans (by rw[<-HV.o];rfl);have s7:w8.cell? ⟨R.b,7,Y⟩=V (Z U (R.aB+1)):=ae C.o 7;have f6:w8.frozen? ⟨R.b,6,Y⟩=false:=aj C.o 6;clear r j d2)
   |(go_simp;refine(HP.o _ (c9.o _ ((aa.refl n_ w6).dr))).mono ?_;rintro e w7 ⟨v7,rfl,a4⟩;obtain⟨S,y,rfl,-,-⟩:=a4.row.form;have L:aa n_ w6 w7:=(aa.refl n_ w6).dr.tr a4.keep i_;have q6:=L.cell (p:=⟨R.b,6,Y⟩) p6 id;have q7:=L.cell (p:=⟨R.b,7,Y⟩) p7 id;have f5:=kz e7 L.size;have e6:=E a4;have a1:=E L;have r6:=((aa.refl n_ w7).al (I #[Z U (R.aB+1),Z U Q,J S zw.length y] 193)).cell (p:=⟨R.b,6,Y⟩) q6 id;rw[c0]at r6;clear a4 L))
  all_goals
   go_wp2;go_ret2;refine⟨rfl,J (V ⟨g',0,Y⟩) (R.aC.length+1) s,⟨R.aB+1,Q,J S zw.length y,(J S zw.length y).ownBlock.toList,zw⟩,rfl,a2.o,a8.o,aY.zo HH.o ?_ ?_ ?_ ?_ ?_⟩
   ·exact(((b4.o.mono (T:=λk=>k=R.b\/R.vc.ownBlock=V k) (λ_ _ h=>.inl h)).tr e5.o (λk h=>.inr (by rw[HV.o];exact h.symm))).tr (aa.setCell _ _ _) (λk h=>.inl h))
   ·rw[ak C.o];rfl
   ·have hr:Row (w8.setCell ⟨R.b,6,Y⟩ (J (V ⟨g',0,Y⟩) (R.aC.length+1) s)) 193 3 (J (V ⟨g',0,Y⟩) (R.aC.length+1) s) (R.aC.length+1) _:=HO.o.ai (aa.setCell _ _ _) (λg m e=>(HO.o.aR m).ne (e':=40) (by decide) ⟨_,(show g=R.b from e)▸C.o⟩);simpa[ko.cells,c0]using hr
   ·intro g m;rcases HA.o with e|e
    ·left;rw[HV.o,<-e];exact m
    ·right;rw[m]at e;have e':g=w7.heap.size+1:=by simpa using e
     have:=b4.o.size;have:=a1.o.size;omega
   ·intro x hx;rcases cQ.1 hx with h|h
    ·exact .inl h
    ·have:x=⟨R.aB+1,Q,J S zw.length y,(J S zw.length y).ownBlock.toList,zw⟩:=by simpa using h
     subst this;have hM:=e6.o;have e0:∀g,(J S zw.length y).ownBlock=V g->bD w7 g 9:=λg m=>hM.row.aR m;have d4:aa (λk=>V k=(J oa R.aC.length ca).ownBlock\/k=R.b) w7 (w8.setCell ⟨R.b,6,Y⟩ (J (V ⟨g',0,Y⟩) (R.aC.length+1) s)):=(c5.o.mono (λ_ _ h=>.inl h)).tr (aa.setCell _ _ _) (λk h=>.inr h);have d9:∀g,(J S zw.length y).ownBlock=V g->¬(V g=(J oa R.aC.length ca).ownBlock\/g=R.b):=λg m e=>by
      have h1:=hM.own g m;have h2:=D.o;rcases e with e|e
      ·have:=h2.lt e.symm;simp at h1;omega
      ·simp at h1;omega
     have b0:=hM.row.ai d4 d9;rw[Ni]at b0;refine .inr ⟨Row.QQ b0 (λg m=>by simp[m]),λk K=>?_⟩;have z:(J S zw.length y).ownBlock=V k:=by simpa using K
     refine⟨(e0 k z).ai d4 (d9 k z),?_⟩;have h1:=hM.own k z;have:=b4.o.size;simp at h1;omega
end Go.Proofs.YtjbkfdeldlajhaaGreatDoor
