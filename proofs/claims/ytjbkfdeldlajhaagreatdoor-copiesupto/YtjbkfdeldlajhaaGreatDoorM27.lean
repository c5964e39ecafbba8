import Derived.Test.YtjbkfdeldlajhaaGreatDoorM26
set_option linter.unusedSimpArgs false
namespace Go.Proofs.YtjbkfdeldlajhaaGreatDoor
set_option maxRecDepth 100000
set_option maxHeartbeats 4000000
open Go.RowKit Go.Shelf Go.Proofs.Tryz
open Option renaming none->Y,some->V
open Go.Value renaming int->Z,string->O,slice->J,pointer->X,tuple->bt,bool->ao
open Go.IntKind renaming i64->U
open Go.Obj renaming cells->I
open Go renaming World->ab,Value->ax,Calls->ba
open Go.Ending renaming returned->ay
variable{K d b:Nat}{l:List Int}{vp vm vr vn:ax}{c:List (ax×ByteArray)}{G:List Nat}{w W:ab}{x:Int}
theorem yz{R:Int}(v:ax)(n:Nat)(xs:List ax)(w:ab)(ht:w.heap[d]?=V (I #[vp,vm,vr,vn,Z U R] 47 (0,0)))(hx:0<=R/\R<=K)(h:OB K w vp vm c)(hr:Row w 68 2 v n xs)(hb:v.ownBlock≠V d)(hv:∀g,v.ownBlock=V g->g∉eZ vp vm c)(hn:n<=20000000000)(hK:K<=10000000000):ba prog 64 #[X (V ⟨d,0,Y⟩),v] w λe w'=>e=ay (bt #[])/\vF 66 68 2 jm (λa b=>#[a,b,vr,vn,Z U (R+1)]) K d vp vm c v w w':=by
 have HM:=E (CB d vp vm vr vn R w ht hx.1 (by omega));obtain⟨s,r,rfl,hm,sa⟩:=hr.form;obtain⟨L,H,rfl,e4,-⟩:=h.lB.form;obtain⟨F,B,rfl,e3,-⟩:=h.marks.form;have HB:=E h;have a7:=E ht;have b5:=E hb;have HV:=E hv;have SA:=E sa;have b8:QS (xs.length=n*2):=hr.1;have M:QS (c.length<=40000000000):=by have:=h.len;show _<=_;omega
 have HR:=E hr;obtain⟨i0,hi,b2,b3,b4⟩:=info_parts Tryz.wC;obtain⟨i1,d8,c8,c9,d0⟩:=info_parts Tryz.Jm;obtain⟨i2,d9,d1,d2,d3⟩:=info_parts Tryz.GU;unfold maxLen at hm e4 e3;clear h hr hv sa hK ht hx hb;go_enter func64,ntmps64;go_wp2_with fail;refine(HM.o).mono ?_;rintro e z ⟨m,rfl,k1,t1⟩;have b6:QS (Row z 68 2 (J s n r) n xs):=HR.o.ai k1 (λg f e=>b5.o (f.trans (Rc V e)));have K1:=E k1;have T1:=E t1;clear k1 t1 HM HR;go_wp2_with fail;go_loopw [6] (λi wr=>∃k:Nat,k<=n/\i=Z U k/\aa (λj=>(J s n r).ownBlock=V j) (z.alloc (I #[O m,O m] 68)) wr/\Row wr 68 2 (J s n r) n (mix 2 jm m xs k)) (λi _=>n-(intOf i).toNat)
 case atStart=>exact⟨0,eL _,rfl,aa.refl _ _,by rw[CG];exact b6.o.ai (aa.alloc n_ _ _) k_⟩
 case round=>
  obtain⟨k,hk,rfl,a4,c7⟩:=hrel;have D:∀W:ab,aa (λj=>(J s n r).ownBlock=V j) (z.alloc (I #[O m,O m] 68)) W->W.heap[z.heap.size]?=V (I #[O m,O m] 68 (0,0)):=λW hW=>bO hW (λe=>by have:=b6.o.lt e;omega);have A:=E D;have b0:wr.cell? ⟨z.heap.size,0,Y⟩=V (O m):=ae (D _ a4) 0;have b1:wr.cell? ⟨z.heap.size,1,Y⟩=V (O m):=ae (D _ a4) 1;have a3:=E a4;have y:=E c7;clear D a4 c7;by_cases e2:k<n
  ·obtain⟨g,rfl⟩:=SA.o (by omega);have hl:(mix 2 jm m xs k).length=n*2:=y.o.1;obtain⟨u0,e0⟩:∃u,(mix 2 jm m xs k)[k*2]?=V u:=⟨_,ec (by omega)⟩
   obtain⟨u1,e1⟩:∃u,(mix 2 jm m xs k)[k*2+1]?=V u:=⟨_,ec (by omega)⟩
   have c0:wr.cell? ⟨g,k*2,Y⟩=V u0:=(y.o.cellAt (k*2) (by omega)).trans e0;have c1:wr.cell? ⟨g,k*2+1,Y⟩=V u1:=(y.o.cellAt (k*2+1) (by omega)).trans e1;have f0:=y.o.frozenAt (k*2);have f1:=y.o.frozenAt (k*2+1);clear e0 e1 hl;go_wp2;refine⟨⟨k+1,by omega,by go_num,(a3.o.st (p:=⟨g,k*2,Y⟩) (.inr rfl) _).st (p:=⟨g,k*2+1,Y⟩) (.inr rfl) _,?_⟩,by simp only[intOf];omega⟩;have:=(y.o.setAt (k*2) (O m)).setAt (k*2+1) (O m);rw[JF m b8.o e2]at this;exact this
  ·have e:k=n:=by omega
   subst e;have a6:QS (Row wr 68 2 (J s k r) k (full 2 jm m k)):=by have:=y.o;rw[CF b8.o]at this;exact this
   clear y;have HZ:QS (w.heap.size<=wr.heap.size):=by have z1:=K1.o.size;have z2:=a3.o.size;simp at z2;show _<=_;omega
   go_upto_region 7 with(at_builtin;go_must(refine eB _ rfl _ _ 66 rfl 68 i0 _ 2 32 Tryz.underlying66 hi b2 b3 b4 rfl (J s k r) k _ rfl (a6.o.ai (aa.alloc n_ _ _) k_) ⟨wr.heap.size,0,Y⟩ 1 1 [O m,O m] rfl rfl (br wr #[O m,O m] _) (by simp[Value.oneCell']) (by unfold maxLen;omega) (by omega) (jm m) (mT (k:=1) (nn m)) ?_;intro v1 S o l q t;have G:=E (And.intro o (And.intro l (And.intro q t)));clear o l q t))
   obtain⟨o,l,q,t⟩:=G.o;have A1:QS (Row S 68 2 v1 (k+1) (full 2 jm m (k+1))):=by have:=o;rw[show [O m,O m]=full 2 jm m 1 from rfl,mS (nn m)]at this;exact this
   have B0:QS (Row S 68 2 (J s k r) k (full 2 jm m k)):=t _ _ _ (a6.o.ai (aa.alloc n_ _ _) k_) fk;have a0:QS (aa (λj=>(J s k r).ownBlock=V j) (z.alloc (I #[O m,O m] 68)) S):=(a3.o.al _).tr (aa.grown l) (λ_ e=>e.symm);have a8:QS (wr.heap.size<S.heap.size):=by have:=l.size;simp at this;show _<_;omega
   have O1:QS (∀g,v1.ownBlock=V g->(J s k r).ownBlock=V g\/w.heap.size<=g):=λg f=>by
    rcases q with e|e
    ·exact .inl (e▸f)
    ·rw[f]at e;have C:g=wr.heap.size+1:=by simpa using e
     have:=HZ.o;exact .inr (by omega)
   have q0:S.cell? ⟨z.heap.size,0,Y⟩=V (O m):=ae (A.o _ a0.o) 0;have q1:S.cell? ⟨z.heap.size,1,Y⟩=V (O m):=ae (A.o _ a0.o) 1;clear G o l q t b0 b1 a6 a3;go_upto_region 8 with(at_builtin;go_must(refine eB _ rfl _ _ 66 rfl 68 i0 _ 2 32 Tryz.underlying66 hi b2 b3 b4 rfl (J s k r) k _ rfl (B0.o.ai (aa.alloc n_ _ _) k_) ⟨S.heap.size,0,Y⟩ 2 2 [O m,O m,O m,O m] rfl rfl (br S #[O m,O m,O m,O m] _) (by simp[Value.oneCell']) (by unfold maxLen;omega) (by omega) (jm m) (mT (k:=2) (nn m)) ?_;intro v2 w5 o l q t;have G:=E (And.intro o (And.intro l (And.intro q t)));clear o l q t))
   obtain⟨o,l,q,t⟩:=G.o;have A2:QS (Row w5 68 2 v2 (k+2) (full 2 jm m (k+2))):=by have:=o;rw[show [O m,O m,O m,O m]=full 2 jm m 2 from rfl,mS (nn m)]at this;exact this
   have C0:QS (Row w5 68 2 (J s k r) k (full 2 jm m k)):=t _ _ _ (B0.o.ai (aa.alloc n_ _ _) k_) fk;have C1:QS (Row w5 68 2 v1 (k+1) (full 2 jm m (k+1))):=t _ _ _ (A1.o.ai (aa.alloc n_ _ _) k_) fk;have a2:QS (aa (λj=>(J s k r).ownBlock=V j) (z.alloc (I #[O m,O m] 68)) w5):=(a0.o.al _).tr (aa.grown l) (λ_ e=>e.symm);have b9:QS (S.heap.size<w5.heap.size):=by have:=l.size;simp at this;show _<_;omega
   have O2:QS (∀g,v2.ownBlock=V g->(J s k r).ownBlock=V g\/w.heap.size<=g):=λg f=>by
    rcases q with e|e
    ·exact .inl (e▸f)
    ·rw[f]at e;have C:g=S.heap.size+1:=by simpa using e
     have:=HZ.o;have:=a8.o;exact .inr (by omega)
   have r0:w5.cell? ⟨z.heap.size,0,Y⟩=V (O m):=ae (A.o _ a2.o) 0;have r1:w5.cell? ⟨z.heap.size,1,Y⟩=V (O m):=ae (A.o _ a2.o) 1;clear G o l q t q0 q1 B0 A1 a0;go_upto_region 9 with(at_builtin;go_must(refine eB _ rfl _ _ 66 rfl 68 i0 _ 2 32 Tryz.underlying66 hi b2 b3 b4 rfl (J s k r) k _ rfl (C0.o.ai (aa.alloc n_ _ _) k_) ⟨w5.heap.size,0,Y⟩ 3 3 [O m,O m,O m,O m,O m,O m] rfl rfl (br w5 #[O m,O m,O m,O m,O m,O m] _) (by simp[Value.oneCell']) (by unfold maxLen;omega) (by omega) (jm m) (mT (k:=3) (nn m)) ?_;intro v3 x o l q t;have G:=E (And.intro o (And.intro l (And.intro q t)));clear o l q t))
   obtain⟨o,l,q,t⟩:=G.o;have A3:QS (Row x 68 2 v3 (k+3) (full 2 jm m (k+3))):=by have:=o;rw[show [O m,O m,O m,O m,O m,O m]=full 2 jm m 3 from rfl,mS (nn m)]at this;exact this
   have D0:QS (Row x 68 2 (J s k r) k (full 2 jm m k)):=t _ _ _ (C0.o.ai (aa.alloc n_ _ _) k_) fk;have D1:QS (Row x 68 2 v1 (k+1) (full 2 jm m (k+1))):=t _ _ _ (C1.o.ai (aa.alloc n_ _ _) k_) fk;have D2:QS (Row x 68 2 v2 (k+2) (full 2 jm m (k+2))):=t _ _ _ (A2.o.ai (aa.alloc n_ _ _) k_) fk;have a5:QS (aa (λj=>(J s k r).ownBlock=V j) (z.alloc (I #[O m,O m] 68)) x):=(a2.o.al _).tr (aa.grown l) (λ_ e=>e.symm);have c4:QS (w.heap.size<=x.heap.size):=by have:=l.size;have h1:=b9.o;have h2:=a8.o;have h3:=HZ.o;simp at this;show _<=_;omega
   have O3:QS (∀g,v3.ownBlock=V g->(J s k r).ownBlock=V g\/w.heap.size<=g):=λg f=>by
    rcases q with e|e
    ·exact .inl (e▸f)
    ·rw[f]at e;have C:g=w5.heap.size+1:=by simpa using e
     have:=HZ.o;have:=a8.o;have:=b9.o;exact .inr (by omega)
   clear G o l q t r0 r1 C0 C1 A2 a2;have d7:d<z.heap.size:=(lg T1.o);have T6:QS (x.heap[d]?=V (I #[J L c.length H,J F c.length B,vr,vn,Z U (R+1)] 47 (0,0))):=by show _=_;rw[a5.o.block d (by simp;omega) (λe=>b5.o e),(aa.alloc n_ z _).block d d7 (λh=>h)];exact T1.o
   have a9:QS (aa (λj=>j=d\/(J s k r).ownBlock=V j) w x):=((K1.o.mono (T:=λj=>j=d\/(J s k r).ownBlock=V j) (λ_ _ h=>.inl h)).al _).tr a5.o (λ_ h=>.inr h);have P6:QS (Row x 66 1 (J L c.length H) c.length (c.map λp=>p.1)):=HB.o.lB.ai a9.o (λg f e=>by
    rcases e with rfl|e
    ·exact(HB.o.lB.aR f).ne (e':=47) (by decide) ⟨_,a7.o⟩
    ·exact HV.o g e (dy.2 (.inl f)))
   have M6:QS (Row x 9 1 (J F c.length B) c.length (c.map λp=>O p.2)):=HB.o.marks.ai a9.o (λg f e=>by
    rcases e with rfl|e
    ·exact(HB.o.marks.aR f).ne (e':=47) (by decide) ⟨_,a7.o⟩
    ·exact HV.o g e (dy.2 (.inr (.inl f))))
   have r0:x.cell? ⟨d,0,Y⟩=V (J L c.length H):=ae T6.o 0;obtain⟨p1,c1,rfl⟩:=D1.o.succ;obtain⟨p2,c2,rfl⟩:=D2.o.succ;obtain⟨p3,c3,rfl⟩:=A3.o.succ;have e5:(c.length:Int)<=40000000000:=by have:=M.o;omega
   clear a5;have b7:QS (∀W N:ab,aa n_ x W->W.grownBy N (J L c.length H).ownBlock->N.heap[d]?=V (I #[J L c.length H,J F c.length B,vr,vn,Z U (R+1)] 47 (0,0))):=λW N hk f=>by have c5:d<x.heap.size:=(lg T6.o);rw[(aa.grown f).block d (kz c5 hk.size) (λe=>(P6.o.aR e.symm).ne (e':=47) (by decide) ⟨_,T6.o⟩),hk.block _ c5 (λh=>h)];exact T6.o
   go_upto_region 10 with(at_builtin;go_must(refine aL _ rfl _ _ 44 rfl 66 i1 _ 1 24 Tryz.underlying44 d8 c8 c9 d0 rfl (J L c.length H) c.length _ rfl (P6.o.ai (aa.alloc n_ _ _) k_) ⟨x.heap.size,0,Y⟩ 4 4 [J s k r,J (V ⟨p1,0,Y⟩) (k+1) c1,J (V ⟨p2,0,Y⟩) (k+1+1) c2,J (V ⟨p3,0,Y⟩) (k+2+1) c3] rfl rfl (br x #[J s k r,J (V ⟨p1,0,Y⟩) (k+1) c1,J (V ⟨p2,0,Y⟩) (k+1+1) c2,J (V ⟨p3,0,Y⟩) (k+2+1) c3] _) (by simp[Value.oneCell']) (by have:=M.o;unfold maxLen;omega) (by have:=M.o;omega) ?_;intro vq N o l _ q;obtain⟨Q,P,rfl⟩:=Row.succ (n:=c.length+3) o;have t7:=b7.o _ _ (aa.alloc _ _ _) l;have y0:N.cell? ⟨d,0,Y⟩=V (J L c.length H):=ae t7 0;have z0:N.frozen? ⟨d,0,Y⟩=false:=aj t7 0;have G:=E (And.intro o (And.intro l (And.intro q t7)));clear o l q t7))
   obtain⟨o,l,q,t7⟩:=G.o;have T8:QS ((N.setCell ⟨d,0,Y⟩ (J (V ⟨Q,0,Y⟩) (c.length+3+1) P)).heap[d]?=V (I #[J (V ⟨Q,0,Y⟩) (c.length+3+1) P,J F c.length B,vr,vn,Z U (R+1)] 47 (0,0))):=(ak t7 _).trans (by simp);have K8:QS (aa (λj=>j=d\/(J L c.length H).ownBlock=V j) x (N.setCell ⟨d,0,Y⟩ (J (V ⟨Q,0,Y⟩) (c.length+3+1) P))):=(((aa.refl (λj=>j=d\/(J L c.length H).ownBlock=V j) x).al _).tr (aa.grown l) (λ_ e=>.inr e.symm)).tr (aa.setCell _ _ _) (λ_ e=>.inl e);have P8:QS (Row (N.setCell ⟨d,0,Y⟩ (J (V ⟨Q,0,Y⟩) (c.length+3+1) P)) 66 1 (J (V ⟨Q,0,Y⟩) (c.length+3+1) P) (c.length+4) ((c.map λp=>p.1)++[J s k r,J (V ⟨p1,0,Y⟩) (k+1) c1,J (V ⟨p2,0,Y⟩) (k+1+1) c2,J (V ⟨p3,0,Y⟩) (k+2+1) c3])):=Row.ai o (aa.setCell _ _ _) (λg f e=>(Row.aR o f).ne (e':=47) (by decide) ⟨_,(show g=d from e)▸t7⟩);have M8:QS (Row (N.setCell ⟨d,0,Y⟩ (J (V ⟨Q,0,Y⟩) (c.length+3+1) P)) 9 1 (J F c.length B) c.length (c.map λp=>O p.2)):=M6.o.ai K8.o (λg f e=>by
    rcases e with rfl|e
    ·exact(M6.o.aR f).ne (e':=47) (by decide) ⟨_,T6.o⟩
    ·exact(M6.o.aR f).ne (e':=66) (by decide) (P6.o.aR e))
   have OP:QS (∀g,(J (V ⟨Q,0,Y⟩) (c.length+3+1) P).ownBlock=V g->(J L c.length H).ownBlock=V g\/w.heap.size<=g):=λg f=>by
    rcases q with e|e
    ·exact .inl (e▸f)
    ·rw[f]at e;have C:g=x.heap.size+1:=by simpa using e
     have:=c4.o;exact .inr (by omega)
   have d6:QS (∃cs,x.heap[d]?=V (I cs 47 (0,0))):=⟨_,T6.o⟩
   clear G o l q t7 y0 z0 r0 b7 P6 M6 T6 T1 K1;generalize N.setCell ⟨d,0,Y⟩ (J (V ⟨Q,0,Y⟩) (c.length+3+1) P)=w8 at*;have y1:w8.cell? ⟨d,1,Y⟩=V (J F c.length B):=ae T8.o 1;have d4:QS (∀W w9:ab,aa n_ w8 W->W.grownBy w9 (J F c.length B).ownBlock->w9.heap[d]?=V (I #[J (V ⟨Q,0,Y⟩) (c.length+3+1) P,J F c.length B,vr,vn,Z U (R+1)] 47 (0,0))):=λW w9 hk f=>by have c6:d<w8.heap.size:=(lg T8.o);rw[(aa.grown f).block d (kz c6 hk.size) (λe=>(M8.o.aR e.symm).ne (e':=47) (by decide) ⟨_,T8.o⟩),hk.block _ c6 (λh=>h)];exact T8.o
   go_wp2_with(at_builtin;go_must(refine aL _ rfl _ _ 25 rfl 9 i2 _ 1 16 Tryz.underlying25 d9 d1 d2 d3 rfl (J F c.length B) c.length _ rfl (M8.o.ai (aa.alloc n_ _ _) k_) ⟨w8.heap.size,0,Y⟩ 4 4 [O m,O m,O m,O m] rfl rfl (br w8 #[O m,O m,O m,O m] _) (by simp[Value.oneCell']) (by have:=M.o;unfold maxLen;omega) (by have:=M.o;omega) ?_;intro vq w9 o l _ q;obtain⟨gs,cs,rfl⟩:=Row.succ (n:=c.length+3) o;have t9:=d4.o _ _ (aa.alloc _ _ _) l;have y2:w9.cell? ⟨d,1,Y⟩=V (J F c.length B):=ae t9 1;have z2:w9.frozen? ⟨d,1,Y⟩=false:=aj t9 1;have G:=E (And.intro o (And.intro l (And.intro q t9)));clear o l q t9))
   go_end0;obtain⟨o,l,q,t9⟩:=G.o;have e7:=K8.o.size;have e6:=c4.o;have K9:aa (λj=>j=d\/(J F c.length B).ownBlock=V j) w8 (w9.setCell ⟨d,1,Y⟩ (J (V ⟨gs,0,Y⟩) (c.length+3+1) cs)):=(((aa.refl (λj=>j=d\/(J F c.length B).ownBlock=V j) w8).al _).tr (aa.grown l) (λ_ e=>.inr e.symm)).tr (aa.setCell _ _ _) (λ_ e=>.inl e);have K7:aa (λj=>j=d\/(J L c.length H).ownBlock=V j\/(J F c.length B).ownBlock=V j) x (w9.setCell ⟨d,1,Y⟩ (J (V ⟨gs,0,Y⟩) (c.length+3+1) cs)):=(K8.o.mono (T:=λj=>j=d\/(J L c.length H).ownBlock=V j\/(J F c.length B).ownBlock=V j) (λj _ h=>h.imp id .inl)).tr K9 (λj h=>h.imp id .inr);have d5:(w9.setCell ⟨d,1,Y⟩ (J (V ⟨gs,0,Y⟩) (c.length+3+1) cs)).heap[d]?=V (I #[J (V ⟨Q,0,Y⟩) (c.length+3+1) P,J (V ⟨gs,0,Y⟩) (c.length+3+1) cs,vr,vn,Z U (R+1)] 47 (0,0)):=(ak t9 _).trans (by simp);refine⟨rfl,wT Md ⟨_,a7.o⟩ HB.o HV.o hn a9.o K7 d6.o d5 D0.o D1.o D2.o A3.o O1.o O2.o O3.o ?_ ?_ OP.o ?_⟩
   ·exact P8.o.ai K9 (λg f e=>by
     rcases e with rfl|e
     ·exact(P8.o.aR f).ne (e':=47) (by decide) ⟨_,T8.o⟩
     ·exact(P8.o.aR f).ne (e':=9) (by decide) (M8.o.aR e))
   ·exact Row.ai o (aa.setCell _ _ _) (λg f e=>(Row.aR o f).ne (e':=47) (by decide) ⟨_,(show g=d from e)▸t9⟩)
   ·intro g f;rcases q with e|e
    ·exact .inl (e▸f)
    ·rw[f]at e;have C:g=w8.heap.size+1:=by simpa using e
     exact .inr (by omega)
theorem uN{nx:Int}(v:ax)(n:Nat)(xs:List ax)(w:ab)(ht:w.heap[d]?=V (I #[vr,vn,vp,vm,Z U nx] 47 (0,0)))(hx:0<=nx/\nx<=K)(h:OC K w vp vm c)(hr:Row w 70 3 v n xs)(hb:v.ownBlock≠V d)(hv:∀g,v.ownBlock=V g->g∉eZ vp vm c)(hn:n<=20000000000)(hK:K<=10000000000):ba prog 44 #[X (V ⟨d,0,Y⟩),v] w λe w'=>e=ay (bt #[])/\vF 26 70 3 ix (λa b=>#[vr,vn,a,b,Z U (nx+1)]) K d vp vm c v w w':=by
 have HM:=E (CB d vr vn vp vm nx w ht hx.1 (by omega));obtain⟨s,r,rfl,hm,sa⟩:=hr.form;obtain⟨L,H,rfl,e3,-⟩:=h.lB.form;obtain⟨F,C,rfl,d9,-⟩:=h.marks.form;have HB:=E h;have a4:=E ht;have b3:=E hb;have HV:=E hv;have SA:=E sa;have b6:QS (xs.length=n*3):=hr.1;have P:QS (c.length<=40000000000):=by have:=h.len;show _<=_;omega
 have HR:=E hr;obtain⟨i0,hi,a7,a8,a9⟩:=info_parts Tryz.kP;obtain⟨i1,d6,c6,c7,c8⟩:=info_parts Tryz.LZ;obtain⟨i2,d7,c9,d0,d1⟩:=info_parts Tryz.se;unfold maxLen at hm e3 d9;clear h hr hv sa hK ht hx hb;go_enter func44,ntmps44;go_wp2_with fail;refine(HM.o).mono ?_;rintro e A ⟨m,rfl,k1,t1⟩;have b4:QS (Row A 70 3 (J s n r) n xs):=HR.o.ai k1 (λg f e=>b3.o (f.trans (Rc V e)));have K1:=E k1;have T1:=E t1;clear k1 t1 HM HR;go_wp2_with fail;go_loopw [6] (λi wr=>∃k:Nat,k<=n/\i=Z U k/\aa (λj=>(J s n r).ownBlock=V j) (A.alloc (I #[O m,O m,ao true] 70)) wr/\Row wr 70 3 (J s n r) n (mix 3 ix m xs k)) (λi _=>n-(intOf i).toNat)
 case atStart=>exact⟨0,eL _,rfl,aa.refl _ _,by rw[CG];exact b4.o.ai (aa.alloc n_ _ _) k_⟩
 case round=>
  obtain⟨k,hk,rfl,Q,c5⟩:=hrel;have B:∀W:ab,aa (λj=>(J s n r).ownBlock=V j) (A.alloc (I #[O m,O m,ao true] 70)) W->W.heap[A.heap.size]?=V (I #[O m,O m,ao true] 70 (0,0)):=λW hW=>bO hW (λe=>by have:=b4.o.lt e;omega);have x:=E B;have b0:wr.cell? ⟨A.heap.size,0,Y⟩=V (O m):=ae (B _ Q) 0;have b1:wr.cell? ⟨A.heap.size,1,Y⟩=V (O m):=ae (B _ Q) 1;have b2:wr.cell? ⟨A.heap.size,2,Y⟩=V (ao true):=ae (B _ Q) 2;have a0:=E Q;have t:=E c5;clear B Q c5;by_cases d8:k<n
  ·obtain⟨g,rfl⟩:=SA.o (by omega);have hl:(mix 3 ix m xs k).length=n*3:=t.o.1;obtain⟨u0,e0⟩:∃u,(mix 3 ix m xs k)[k*3]?=V u:=⟨_,ec (by omega)⟩
   obtain⟨u1,e1⟩:∃u,(mix 3 ix m xs k)[k*3+1]?=V u:=⟨_,ec (by omega)⟩
   obtain⟨u2,e2⟩:∃u,(mix 3 ix m xs k)[k*3+2]?=V u:=⟨_,ec (by omega)⟩
   have c0:wr.cell? ⟨g,k*3,Y⟩=V u0:=(t.o.cellAt (k*3) (by omega)).trans e0;have c1:wr.cell? ⟨g,k*3+1,Y⟩=V u1:=(t.o.cellAt (k*3+1) (by omega)).trans e1;have c2:wr.cell? ⟨g,k*3+2,Y⟩=V u2:=(t.o.cellAt (k*3+2) (by omega)).trans e2;have f0:=t.o.frozenAt (k*3);have f1:=t.o.frozenAt (k*3+1);have f2:=t.o.frozenAt (k*3+2);clear e0 e1 e2 hl;go_wp2;refine⟨⟨k+1,by omega,by go_num,((a0.o.st (p:=⟨g,k*3,Y⟩) (.inr rfl) _).st (p:=⟨g,k*3+1,Y⟩) (.inr rfl) _).st (p:=⟨g,k*3+2,Y⟩) (.inr rfl) _,?_⟩,by simp only[intOf];omega⟩;have:=((t.o.FX (k*3) (O m)).FX (k*3+1) (O m)).FX (k*3+2) (ao true);rw[JG m b6.o d8]at this;exact this
  ·have e:k=n:=by omega
   subst e;have a3:QS (Row wr 70 3 (J s k r) k (full 3 ix m k)):=by have:=t.o;rw[CF b6.o]at this;exact this
   clear t;have HZ:QS (w.heap.size<=wr.heap.size):=by have z1:=K1.o.size;have z2:=a0.o.size;simp at z2;show _<=_;omega
   go_upto_region 7 with(at_builtin;go_must(refine eB _ rfl _ _ 26 rfl 70 i0 _ 3 40 Tryz.underlying26 hi a7 a8 a9 rfl (J s k r) k _ rfl (a3.o.ai (aa.alloc n_ _ _) k_) ⟨wr.heap.size,0,Y⟩ 1 1 [O m,O m,ao true] rfl rfl (br wr #[O m,O m,ao true] _) (by simp[Value.oneCell']) (by unfold maxLen;omega) (by omega) (ix m) (mT (k:=1) (nt m)) ?_;intro v1 R o l q y;have G:=E (And.intro o (And.intro l (And.intro q y)));clear o l q y))
   obtain⟨o,l,q,y⟩:=G.o;have A1:QS (Row R 70 3 v1 (k+1) (full 3 ix m (k+1))):=by have:=o;rw[show [O m,O m,ao true]=full 3 ix m 1 from rfl,mS (nt m)]at this;exact this
   have B0:QS (Row R 70 3 (J s k r) k (full 3 ix m k)):=y _ _ _ (a3.o.ai (aa.alloc n_ _ _) k_) fk;have M:QS (aa (λj=>(J s k r).ownBlock=V j) (A.alloc (I #[O m,O m,ao true] 70)) R):=(a0.o.al _).tr (aa.grown l) (λ_ e=>e.symm);have a5:QS (wr.heap.size<R.heap.size):=by have:=l.size;simp at this;show _<_;omega
   have O1:QS (∀g,v1.ownBlock=V g->(J s k r).ownBlock=V g\/w.heap.size<=g):=λg f=>by
    rcases q with e|e
    ·exact .inl (e▸f)
    ·rw[f]at e;have D:g=wr.heap.size+1:=by simpa using e
     have:=HZ.o;exact .inr (by omega)
   have q0:R.cell? ⟨A.heap.size,0,Y⟩=V (O m):=ae (x.o _ M.o) 0;have q1:R.cell? ⟨A.heap.size,1,Y⟩=V (O m):=ae (x.o _ M.o) 1;have q2:R.cell? ⟨A.heap.size,2,Y⟩=V (ao true):=ae (x.o _ M.o) 2;clear G o l q y b0 b1 b2 a3 a0;go_upto_region 8 with(at_builtin;go_must(refine eB _ rfl _ _ 26 rfl 70 i0 _ 3 40 Tryz.underlying26 hi a7 a8 a9 rfl (J s k r) k _ rfl (B0.o.ai (aa.alloc n_ _ _) k_) ⟨R.heap.size,0,Y⟩ 2 2 [O m,O m,ao true,O m,O m,ao true] rfl rfl (br R #[O m,O m,ao true,O m,O m,ao true] _) (by simp[Value.oneCell']) (by unfold maxLen;omega) (by omega) (ix m) (mT (k:=2) (nt m)) ?_;intro v2 S o l q y;have G:=E (And.intro o (And.intro l (And.intro q y)));clear o l q y))
   obtain⟨o,l,q,y⟩:=G.o;have A2:QS (Row S 70 3 v2 (k+2) (full 3 ix m (k+2))):=by have:=o;rw[show [O m,O m,ao true,O m,O m,ao true]=full 3 ix m 2 from rfl,mS (nt m)]at this;exact this
   have C0:QS (Row S 70 3 (J s k r) k (full 3 ix m k)):=y _ _ _ (B0.o.ai (aa.alloc n_ _ _) k_) fk;have C1:QS (Row S 70 3 v1 (k+1) (full 3 ix m (k+1))):=y _ _ _ (A1.o.ai (aa.alloc n_ _ _) k_) fk;have N:QS (aa (λj=>(J s k r).ownBlock=V j) (A.alloc (I #[O m,O m,ao true] 70)) S):=(M.o.al _).tr (aa.grown l) (λ_ e=>e.symm);have b7:QS (R.heap.size<S.heap.size):=by have:=l.size;simp at this;show _<_;omega
   have O2:QS (∀g,v2.ownBlock=V g->(J s k r).ownBlock=V g\/w.heap.size<=g):=λg f=>by
    rcases q with e|e
    ·exact .inl (e▸f)
    ·rw[f]at e;have D:g=R.heap.size+1:=by simpa using e
     have:=HZ.o;have:=a5.o;exact .inr (by omega)
   have r0:S.cell? ⟨A.heap.size,0,Y⟩=V (O m):=ae (x.o _ N.o) 0;have r1:S.cell? ⟨A.heap.size,1,Y⟩=V (O m):=ae (x.o _ N.o) 1;have r2:S.cell? ⟨A.heap.size,2,Y⟩=V (ao true):=ae (x.o _ N.o) 2;clear G o l q y q0 q1 q2 B0 A1 M;go_upto_region 9 with(at_builtin;go_must(refine eB _ rfl _ _ 26 rfl 70 i0 _ 3 40 Tryz.underlying26 hi a7 a8 a9 rfl (J s k r) k _ rfl (C0.o.ai (aa.alloc n_ _ _) k_) ⟨S.heap.size,0,Y⟩ 3 3 [O m,O m,ao true,O m,O m,ao true,O m,O m,ao true] rfl rfl (br S #[O m,O m,ao true,O m,O m,ao true,O m,O m,ao true] _) (by simp[Value.oneCell']) (by unfold maxLen;omega) (by omega) (ix m) (mT (k:=3) (nt m)) ?_;intro v3 z o l q y;have G:=E (And.intro o (And.intro l (And.intro q y)));clear o l q y))
   obtain⟨o,l,q,y⟩:=G.o;have A3:QS (Row z 70 3 v3 (k+3) (full 3 ix m (k+3))):=by have:=o;rw[show [O m,O m,ao true,O m,O m,ao true,O m,O m,ao true]=full 3 ix m 3 from rfl,mS (nt m)]at this;exact this
   have D0:QS (Row z 70 3 (J s k r) k (full 3 ix m k)):=y _ _ _ (C0.o.ai (aa.alloc n_ _ _) k_) fk;have D1:QS (Row z 70 3 v1 (k+1) (full 3 ix m (k+1))):=y _ _ _ (C1.o.ai (aa.alloc n_ _ _) k_) fk;have D2:QS (Row z 70 3 v2 (k+2) (full 3 ix m (k+2))):=y _ _ _ (A2.o.ai (aa.alloc n_ _ _) k_) fk;have a2:QS (aa (λj=>(J s k r).ownBlock=V j) (A.alloc (I #[O m,O m,ao true] 70)) z):=(N.o.al _).tr (aa.grown l) (λ_ e=>e.symm);have b8:QS (w.heap.size<=z.heap.size):=by have:=l.size;have h1:=b7.o;have h2:=a5.o;have h3:=HZ.o;simp at this;show _<=_;omega
   have O3:QS (∀g,v3.ownBlock=V g->(J s k r).ownBlock=V g\/w.heap.size<=g):=λg f=>by
    rcases q with e|e
    ·exact .inl (e▸f)
    ·rw[f]at e;have D:g=S.heap.size+1:=by simpa using e
     have:=HZ.o;have:=a5.o;have:=b7.o;exact .inr (by omega)
   clear G o l q y r0 r1 r2 C0 C1 A2 N;have d5:d<A.heap.size:=(lg T1.o);have T6:QS (z.heap[d]?=V (I #[vr,vn,J L c.length H,J F c.length C,Z U (nx+1)] 47 (0,0))):=by show _=_;rw[a2.o.block d (by simp;omega) (λe=>b3.o e),(aa.alloc n_ A _).block d d5 (λh=>h)];exact T1.o
   have a6:QS (aa (λj=>j=d\/(J s k r).ownBlock=V j) w z):=((K1.o.mono (T:=λj=>j=d\/(J s k r).ownBlock=V j) (λ_ _ h=>.inl h)).al _).tr a2.o (λ_ h=>.inr h);have P6:QS (Row z 26 1 (J L c.length H) c.length (c.map λp=>p.1)):=HB.o.lB.ai a6.o (λg f e=>by
    rcases e with rfl|e
    ·exact(HB.o.lB.aR f).ne (e':=47) (by decide) ⟨_,a4.o⟩
    ·exact HV.o g e (dy.2 (.inl f)))
   have M6:QS (Row z 9 1 (J F c.length C) c.length (c.map λp=>O p.2)):=HB.o.marks.ai a6.o (λg f e=>by
    rcases e with rfl|e
    ·exact(HB.o.marks.aR f).ne (e':=47) (by decide) ⟨_,a4.o⟩
    ·exact HV.o g e (dy.2 (.inr (.inl f))))
   have r0:z.cell? ⟨d,2,Y⟩=V (J L c.length H):=ae T6.o 2;obtain⟨p1,c1,rfl⟩:=D1.o.succ;obtain⟨p2,c2,rfl⟩:=D2.o.succ;obtain⟨p3,c3,rfl⟩:=A3.o.succ;have e4:(c.length:Int)<=40000000000:=by have:=P.o;omega
   clear a2;have b5:QS (∀W w7:ab,aa n_ z W->W.grownBy w7 (J L c.length H).ownBlock->w7.heap[d]?=V (I #[vr,vn,J L c.length H,J F c.length C,Z U (nx+1)] 47 (0,0))):=λW w7 hk f=>by have b9:d<z.heap.size:=(lg T6.o);rw[(aa.grown f).block d (kz b9 hk.size) (λe=>(P6.o.aR e.symm).ne (e':=47) (by decide) ⟨_,T6.o⟩),hk.block _ b9 (λh=>h)];exact T6.o
   go_upto_region 10 with(at_builtin;go_must(refine aL _ rfl _ _ 45 rfl 26 i1 _ 1 24 Tryz.underlying45 d6 c6 c7 c8 rfl (J L c.length H) c.length _ rfl (P6.o.ai (aa.alloc n_ _ _) k_) ⟨z.heap.size,0,Y⟩ 4 4 [J s k r,J (V ⟨p1,0,Y⟩) (k+1) c1,J (V ⟨p2,0,Y⟩) (k+1+1) c2,J (V ⟨p3,0,Y⟩) (k+2+1) c3] rfl rfl (br z #[J s k r,J (V ⟨p1,0,Y⟩) (k+1) c1,J (V ⟨p2,0,Y⟩) (k+1+1) c2,J (V ⟨p3,0,Y⟩) (k+2+1) c3] _) (by simp[Value.oneCell']) (by have:=P.o;unfold maxLen;omega) (by have:=P.o;omega) ?_;intro vq w7 o l _ q;obtain⟨gq,cq,rfl⟩:=Row.succ (n:=c.length+3) o;have t7:=b5.o _ _ (aa.alloc _ _ _) l;have y0:w7.cell? ⟨d,2,Y⟩=V (J L c.length H):=ae t7 2;have z0:w7.frozen? ⟨d,2,Y⟩=false:=aj t7 2;have G:=E (And.intro o (And.intro l (And.intro q t7)));clear o l q t7))
   obtain⟨o,l,q,t7⟩:=G.o;have T8:QS ((w7.setCell ⟨d,2,Y⟩ (J (V ⟨gq,0,Y⟩) (c.length+3+1) cq)).heap[d]?=V (I #[vr,vn,J (V ⟨gq,0,Y⟩) (c.length+3+1) cq,J F c.length C,Z U (nx+1)] 47 (0,0))):=(ak t7 _).trans (by simp);have K8:QS (aa (λj=>j=d\/(J L c.length H).ownBlock=V j) z (w7.setCell ⟨d,2,Y⟩ (J (V ⟨gq,0,Y⟩) (c.length+3+1) cq))):=(((aa.refl (λj=>j=d\/(J L c.length H).ownBlock=V j) z).al _).tr (aa.grown l) (λ_ e=>.inr e.symm)).tr (aa.setCell _ _ _) (λ_ e=>.inl e);have P8:QS (Row (w7.setCell ⟨d,2,Y⟩ (J (V ⟨gq,0,Y⟩) (c.length+3+1) cq)) 26 1 (J (V ⟨gq,0,Y⟩) (c.length+3+1) cq) (c.length+4) ((c.map λp=>p.1)++[J s k r,J (V ⟨p1,0,Y⟩) (k+1) c1,J (V ⟨p2,0,Y⟩) (k+1+1) c2,J (V ⟨p3,0,Y⟩) (k+2+1) c3])):=Row.ai o (aa.setCell _ _ _) (λg f e=>(Row.aR o f).ne (e':=47) (by decide) ⟨_,(show g=d from e)▸t7⟩);have M8:QS (Row (w7.setCell ⟨d,2,Y⟩ (J (V ⟨gq,0,Y⟩) (c.length+3+1) cq)) 9 1 (J F c.length C) c.length (c.map λp=>O p.2)):=M6.o.ai K8.o (λg f e=>by
    rcases e with rfl|e
    ·exact(M6.o.aR f).ne (e':=47) (by decide) ⟨_,T6.o⟩
    ·exact(M6.o.aR f).ne (e':=26) (by decide) (P6.o.aR e))
   have OP:QS (∀g,(J (V ⟨gq,0,Y⟩) (c.length+3+1) cq).ownBlock=V g->(J L c.length H).ownBlock=V g\/w.heap.size<=g):=λg f=>by
    rcases q with e|e
    ·exact .inl (e▸f)
    ·rw[f]at e;have D:g=z.heap.size+1:=by simpa using e
     have:=b8.o;exact .inr (by omega)
   have d4:QS (∃cs,z.heap[d]?=V (I cs 47 (0,0))):=⟨_,T6.o⟩
   clear G o l q t7 y0 z0 r0 b5 P6 M6 T6 T1 K1;generalize w7.setCell ⟨d,2,Y⟩ (J (V ⟨gq,0,Y⟩) (c.length+3+1) cq)=w8 at*;have y1:w8.cell? ⟨d,3,Y⟩=V (J F c.length C):=ae T8.o 3;have d2:QS (∀W w9:ab,aa n_ w8 W->W.grownBy w9 (J F c.length C).ownBlock->w9.heap[d]?=V (I #[vr,vn,J (V ⟨gq,0,Y⟩) (c.length+3+1) cq,J F c.length C,Z U (nx+1)] 47 (0,0))):=λW w9 hk f=>by have c4:d<w8.heap.size:=(lg T8.o);rw[(aa.grown f).block d (kz c4 hk.size) (λe=>(M8.o.aR e.symm).ne (e':=47) (by decide) ⟨_,T8.o⟩),hk.block _ c4 (λh=>h)];exact T8.o
   go_wp2_with(at_builtin;go_must(refine aL _ rfl _ _ 25 rfl 9 i2 _ 1 16 Tryz.underlying25 d7 c9 d0 d1 rfl (J F c.length C) c.length _ rfl (M8.o.ai (aa.alloc n_ _ _) k_) ⟨w8.heap.size,0,Y⟩ 4 4 [O m,O m,O m,O m] rfl rfl (br w8 #[O m,O m,O m,O m] _) (by simp[Value.oneCell']) (by have:=P.o;unfold maxLen;omega) (by have:=P.o;omega) ?_;intro vq w9 o l _ q;obtain⟨gs,cs,rfl⟩:=Row.succ (n:=c.length+3) o;have t9:=d2.o _ _ (aa.alloc _ _ _) l;have y2:w9.cell? ⟨d,3,Y⟩=V (J F c.length C):=ae t9 3;have z2:w9.frozen? ⟨d,3,Y⟩=false:=aj t9 3;have G:=E (And.intro o (And.intro l (And.intro q t9)));clear o l q t9))
   go_end0;obtain⟨o,l,q,t9⟩:=G.o;have e6:=K8.o.size;have e5:=b8.o;have K9:aa (λj=>j=d\/(J F c.length C).ownBlock=V j) w8 (w9.setCell ⟨d,3,Y⟩ (J (V ⟨gs,0,Y⟩) (c.length+3+1) cs)):=(((aa.refl (λj=>j=d\/(J F c.length C).ownBlock=V j) w8).al _).tr (aa.grown l) (λ_ e=>.inr e.symm)).tr (aa.setCell _ _ _) (λ_ e=>.inl e);have K7:aa (λj=>j=d\/(J L c.length H).ownBlock=V j\/(J F c.length C).ownBlock=V j) z (w9.setCell ⟨d,3,Y⟩ (J (V ⟨gs,0,Y⟩) (c.length+3+1) cs)):=(K8.o.mono (T:=λj=>j=d\/(J L c.length H).ownBlock=V j\/(J F c.length C).ownBlock=V j) (λj _ h=>h.imp id .inl)).tr K9 (λj h=>h.imp id .inr);have d3:(w9.setCell ⟨d,3,Y⟩ (J (V ⟨gs,0,Y⟩) (c.length+3+1) cs)).heap[d]?=V (I #[vr,vn,J (V ⟨gq,0,Y⟩) (c.length+3+1) cq,J (V ⟨gs,0,Y⟩) (c.length+3+1) cs,Z U (nx+1)] 47 (0,0)):=(ak t9 _).trans (by simp);refine⟨rfl,wT Me ⟨_,a4.o⟩ HB.o HV.o hn a6.o K7 d4.o d3 D0.o D1.o D2.o A3.o O1.o O2.o O3.o ?_ ?_ OP.o ?_⟩
   ·exact P8.o.ai K9 (λg f e=>by
     rcases e with rfl|e
     ·exact(P8.o.aR f).ne (e':=47) (by decide) ⟨_,T8.o⟩
     ·exact(P8.o.aR f).ne (e':=9) (by decide) (M8.o.aR e))
   ·exact Row.ai o (aa.setCell _ _ _) (λg f e=>(Row.aR o f).ne (e':=47) (by decide) ⟨_,(show g=d from e)▸t9⟩)
   ·intro g f;rcases q with e|e
    ·exact .inl (e▸f)
    ·rw[f]at e;have D:g=w8.heap.size+1:=by simpa using e
     exact .inr (by omega)
def Br(K c:Nat)(G:List Nat)(v:ax)(e:Ending)(w b:ab):Prop:=e=ay (bt #[])/\∃a,oJ (K+1) b c a/\aa (λk=>k∈G\/v.ownBlock=V k) w b/\∀k∈a,k∈G\/v.ownBlock=V k\/w.heap.size<=k
theorem PY(v:ax)(n:Nat)(t:List ax)(w:ab)(h:oJ K w b G)(F:Row w 68 2 v n t)(c:∀g,v.ownBlock=V g->g∉G)(D:n<=20000000000)(z:K<=10000000000):ba prog 64 #[X (V ⟨b,0,Y⟩),v] w λe s=>Br K b G v e w s:=by
 obtain⟨N,M,r,q,L,u,m,h,rfl⟩:=h;have H:=h.r.lt;have f:=h.r.not Me ⟨_,h.top⟩;refine(yz v n t w h.top h.nx h.p F (λe=>c b e (by simp)) (λg B C=>c g B (by simp[C])) D z).mono ?_;rintro e s ⟨rfl,l,j,d,x,y,o,p⟩;have A:∀k∈eZ r q m,¬(k=b\/k∈eZ N M u\/v.ownBlock=V k):=λk a e=>by
  rcases e with rfl|e|e
  ·exact f a
  ·exact h.apart k e a
  ·exact c k e (by simp[a])
 refine⟨rfl,_,⟨l,j,r,q,L+1,d,m,⟨x,y,(h.r.ai o A).more (by omega),λk a i=>?_,by have:=h.nx;omega⟩,rfl⟩,o.mono (λk _ e=>?_),λk a=>?_⟩
 ·rcases p k a with e|e|e
  ·exact h.apart k e i
  ·exact c k e (by simp[i])
  ·have:=H k i;omega
 ·rcases e with rfl|e|e
  ·exact .inl (by simp)
  ·exact .inl (by simp[e])
  ·exact .inr e
 ·simp only[cT,cQ]at a⊢;rcases a with e|e|e
  ·exact .inl (.inl e)
  ·rcases p k e with e|e|e
   ·exact .inl (.inr (.inl e))
   ·exact .inr (.inl e)
   ·exact .inr (.inr e)
  ·exact .inl (.inr (.inr e))
theorem PZ(v:ax)(n:Nat)(s:List ax)(w:ab)(h:oJ K w b G)(F:Row w 70 3 v n s)(c:∀g,v.ownBlock=V g->g∉G)(D:n<=20000000000)(y:K<=10000000000):ba prog 44 #[X (V ⟨b,0,Y⟩),v] w λe r=>Br K b G v e w r:=by
 obtain⟨q,p,N,M,L,l,t,h,rfl⟩:=h;have H:=h.p.lt;have f:=h.p.not Md ⟨_,h.top⟩;refine(uN v n s w h.top h.nx h.r F (λe=>c b e (by simp)) (λg B C=>c g B (by simp[C])) D y).mono ?_;rintro e r ⟨rfl,j,i,d,u,x,m,o⟩;have z:∀k∈eZ q p l,¬(k=b\/k∈eZ N M t\/v.ownBlock=V k):=λk a e=>by
  rcases e with rfl|e|e
  ·exact f a
  ·exact h.apart k a e
  ·exact c k e (by simp[a])
 refine⟨rfl,_,⟨q,p,j,i,L+1,l,d,⟨u,(h.p.ai m z).more (by omega),x,λk a A=>?_,by have:=h.nx;omega⟩,rfl⟩,m.mono (λk _ e=>?_),λk a=>?_⟩
 ·rcases o k A with e|e|e
  ·exact h.apart k a e
  ·exact c k e (by simp[a])
  ·have:=H k a;omega
 ·rcases e with rfl|e|e
  ·exact .inl (by simp)
  ·exact .inl (by simp[e])
  ·exact .inr e
 ·simp only[cT,cQ]at a⊢;rcases a with e|e|e
  ·exact .inl (.inl e)
  ·exact .inl (.inr (.inl e))
  ·rcases o k e with e|e|e
   ·exact .inl (.inr (.inr e))
   ·exact .inr (.inl e)
   ·exact .inr (.inr e)
def aM.there(R:aM)(s:Int):Bool:=decide (R.aK<=s)&&decide (s<=R.now)
theorem gJ(R:aM)(s:Int)(w:ab)(h:aY w R):ba prog 86 #[X (V ⟨R.b,0,Y⟩),Z U s] w λe d=>e=ay (ao (R.there s))/\d=w:=by
 have f:w.cell? ⟨R.b,1,Y⟩=V (Z U R.now):=h.cell 1;have g:w.cell? ⟨R.b,2,Y⟩=V (Z U R.aK):=h.cell 2;have a:QS (R.there s=(decide (R.aK<=s)&&decide (s<=R.now))):=E rfl;clear h;generalize R.there s=i at*;go_enter func86,ntmps86;by_cases b:R.aK<=s
 ·by_cases c:s<=R.now
  ·go_wp2;go_ret;exact⟨cR (by rw[a.o];simp[b,c]),rfl⟩
  ·go_wp2;go_ret;exact⟨cR (by rw[a.o];simp[b,c]),rfl⟩
 ·go_wp2;go_ret;exact⟨cR (by rw[a.o,kg (show¬R.aK<=s by omega)];rfl),rfl⟩
theorem aY.Hi{R:aM}{v:ax}(h:aY w R)(i:aa (λk=>k=R.b\/R.vp.ownBlock=V k) w W)(m:W.heap[R.b]?=V (I (aM.top {R with vp:=v,aN:=l}) 40 (0,0)))(j:Row W 3 1 v l.length (l.flatMap kh))(e:∀g,v.ownBlock=V g->R.vp.ownBlock=V g\/w.heap.size<=g):kn 3 R {R with vp:=v,aN:=l} w W:=by
 have d:aa (λk=>k=R.b\/(k∈R.fp/\bD w k 3)) w W:=i.mono (λk _ b=>by
  rcases b with rfl|b
  ·exact .inl rfl
  ·exact .inr ⟨R.Mm b,h.aN.aR b⟩)
 obtain⟨n,o,p,s,q,r⟩:=h.rows 3 (d.mono (λk _ b=>b.imp id And.right));refine⟨⟨m,n (by decide),o (by decide),p (by decide),j,q (by decide),r (by decide)⟩,rfl,d,λk c=>?_⟩;simp only[aM.fp,cT,cQ,ns,Rx]at c⊢;rcases c with a|((((a|a)|a)|a)|a)|a
 ·exact .inl (.inl a)
 ·exact .inl (.inr (.inl (.inl (.inl (.inl (.inl a))))))
 ·exact .inl (.inr (.inl (.inl (.inl (.inl (.inr a))))))
 ·rcases e k a with f|f
  ·exact .inl (.inr (.inl (.inl (.inl (.inr f)))))
  ·exact .inr f
 ·exact .inl (.inr (.inl (.inl (.inr a))))
 ·exact .inl (.inr (.inl (.inr a)))
 ·exact .inl (.inr (.inr a))
theorem Tryz.GS:(prog.info? 3).map (λi=>(i.zero,i.size,i.bytes))=V (V (Z U 0),1,8):=by kernel_rfl
def aM.pinned(R:aM)(v:ax)(l:List Int):aM:={R with vp:=v,aN:=l}
theorem MA(R:aM)(s:Int)(w:ab)(h:aY w R)(b:R.there s=false):ba prog 34 #[X (V ⟨R.b,0,Y⟩),Z U s] w λe d=>e=ay (Z U 5)/\d=w:=by
 have a:=gJ R s w h;rw[b]at a;have c:=E a;clear a h b;go_enter func34,ntmps34;go_wp2_with(go_at_call 86;go_must(refine(c.o).mono ?_;rintro e f ⟨rfl,rfl⟩))
 go_ret;exact⟨rfl,rfl⟩
theorem Oi(R:aM)(s:Int)(w:ab)(h:aY w R)(H:R.there s=true)(Q:R.aN.length<100000000000):ba prog 34 #[X (V ⟨R.b,0,Y⟩),Z U s] w λe w'=>e=ay (Z U 0)/\∃v,kn 3 R (R.pinned v (R.aN++[s])) w w':=by
 have x:=gJ R s w h;rw[H]at x;have L:=E x;obtain⟨p,n,f,S,-⟩:=h.aN.form;have c5:w.cell? ⟨R.b,5,Y⟩=V (J p R.aN.length n):=(h.cell 5).trans (by rw[<-f];rfl);have c:=h.aN;rw[f]at c;have N:=E c;have M:=E h;have u:=E f;have B:=E Q;have j:=h.blt;obtain⟨i0,P,y,z,A⟩:=info_parts Tryz.GS;have r:QS (∀W l:ab,aa n_ w W->W.grownBy l (J p R.aN.length n).ownBlock->l.heap[R.b]?=V (I R.top 40 (0,0))):=λW l G m=>by rw[(aa.grown m).block R.b (kz j G.size) (λe=>(c.aR e.symm).ne (e':=40) (by decide) ⟨_,h.top⟩),G.block _ j id];exact h.top
 unfold maxLen at S;clear x h H f c;go_enter func34,ntmps34;go_wp2_with(first|(go_at_call 86;go_must(refine(L.o).mono ?_;rintro e q ⟨rfl,rfl⟩))|(at_builtin;go_must(refine aL _ rfl _ _ 37 rfl 3 i0 _ 1 8 Tryz.underlying37 P y z A rfl (J p R.aN.length n) R.aN.length _ rfl (N.o.ai (aa.alloc n_ _ _) k_) ⟨q.heap.size,0,Y⟩ 1 1 [Z U s] rfl rfl (br q #[Z U s] _) (by simp[Value.oneCell']) (by have:=B.o;unfold maxLen;omega) (by have:=B.o;omega) ?_;intro v' l b a _ o;obtain⟨F,i,rfl⟩:=b.succ;have d:=E (r.o _ _ (aa.alloc _ _ _) a);have t:=E ((aa.alloc (λk=>V k=Value.ownBlock (J p R.aN.length n)) q _).tr (aa.grown a) i_);have C:=E b;have K:=E o;have r5:l.frozen? ⟨R.b,5,Y⟩=false:=aj d.o 5;have q5:l.cell? ⟨R.b,5,Y⟩=V (J p R.aN.length n):=(ae d.o 5).trans (by rw[<-u.o];rfl);clear b a o)))
 go_ret;refine⟨rfl,J (V ⟨F,0,Y⟩) (R.aN.length+1) i,aY.Hi M.o ?_ ?_ ?_ ?_⟩
 ·exact((t.o.mono (T:=λk=>k=R.b\/R.vp.ownBlock=V k) (λk _ h=>.inr (by rw[u.o];exact h.symm))).tr (aa.setCell _ _ _) (λk h=>.inl h))
 ·rw[ak d.o];rfl
 ·have hr:=C.o.ai (aa.setCell l ⟨R.b,5,Y⟩ (J (V ⟨F,0,Y⟩) (R.aN.length+1) i)) (λg m e=>(C.o.aR m).ne (e':=40) (by decide) ⟨_,(show g=R.b from e)▸d.o⟩);simpa[kh]using hr
 ·intro g m;rcases K.o with e|e
  ·left;rw[u.o,<-e];exact m
  ·right;rw[m]at e;have D:g=q.heap.size+1:=by simpa using e
   omega
theorem MB{g a k:Nat}(h:Row w 3 1 (J (V ⟨g,0,Y⟩) l.length a) l.length (l.flatMap kh))(b:aa n_ w W)(d:l[k]?=V x):W.cell? ⟨g,k,Y⟩=V (Z U x):=by obtain⟨c,rfl⟩:=ej.1 d;have:=Row.elem Ol (h.ai b k_) k c 0 (by omega);simpa[kh]using this
def nD(l:List Int)(s:Int):Int:=if s∈l then 0 else 1
theorem EW{s:Int}{j:Nat}(a:l[j]?=V x):(l.take (j+1)).erase s=if x=s/\¬(s∈l.take j)then(l.take j).erase s else(l.take j).erase s++[x]:=by
 rw[eo a,List.erase_append];by_cases h:s∈l.take j
 ·simp[h]
 ·rw[el h,List.erase_of_not_mem h];by_cases e:x=s
  ·subst e;simp[h]
  ·rw[el (λh=>e h.1)];simp[e]
theorem Gn(R:aM)(s:Int)(w:ab)(h:aY w R)(hl:R.aN.length<100000000000):ba prog 36 #[X (V ⟨R.b,0,Y⟩),Z U s] w λe w'=>e=ay (Z U (nD R.aN s))/\∃v,kn 3 R (R.pinned v (R.aN.erase s)) w w':=by
 obtain⟨oa,ca,F,hm,sa⟩:=h.aN.form;have c5:w.cell? ⟨R.b,5,Y⟩=V (J oa R.aN.length ca):=(h.cell 5).trans (by rw[<-F];rfl);have t:=h.aN;rw[F]at t;have HR:=E t;have SA:=E sa;have HH:=E h;have G:=E hl;have a5:=h.blt;obtain⟨i0,hi,N,P,Q⟩:=info_parts Tryz.GS;have a2:QS (∀W,aa n_ w W->W.frozen? ⟨R.b,5,Y⟩=false/\W.heap[R.b]?=V (I R.top 40 (0,0))):=λW hW=>⟨(h.ai hW k_).frozen 5,(h.ai hW k_).top⟩;unfold maxLen at hm;obtain⟨l,D⟩:∃l,l=R.aN:=⟨_,rfl⟩
 have a6:=E D;rw[<-D]at c5 HR SA G hm hl⊢;clear h F t sa D;go_enter func36,ntmps36;go_wp2_with fail;go_loopw [5,6,7] (λv f i wr=>∃j:Nat,j<=l.length/\i=Z U j/\f=ao (decide (s∈l.take j))/\Made 3 1 kh w wr v ((l.take j).erase s)) (λ_ _ i _=>l.length-(intOf i).toNat)
 case atStart=>exact⟨0,eL _,rfl,by simp,Made.nil (aa.refl _ _)⟩
 case round=>
  obtain⟨j,hj,rfl,rfl,u⟩:=hrel;obtain⟨ob,cb,rfl,-,-⟩:=u.row.form;have d5:=u.keep.cell (p:=⟨R.b,5,Y⟩) c5 id;have A:=E u;clear u;have a8:((l.take j).erase s).length<=j:=mA (List.length_erase_le) (wj _ _);by_cases a4:j<l.length
  ·obtain⟨g,rfl⟩:=SA.o (by omega);obtain⟨x,M⟩:∃x,l[j]?=V x:=⟨l[j],ec a4⟩
   have e0:=MB HR.o A.o.keep M;have S:=E (EW (s:=s) M);have o:QS (decide (s∈l.take (j+1))=(decide (s∈l.take j)||decide (x=s))):=by show _=_;rw[eo M];simp[eq_comm]
   obtain⟨H,z⟩:∃b,b=decide (s∈l.take j):=⟨_,rfl⟩
   have y:=E z;rw[<-z]at o⊢;by_cases B:x=s/\H=false
   ·have HS:QS ((l.take (j+1)).erase s=(l.take j).erase s):=by show _=_;rw[S.o,fy ⟨B.1,λh=>by have:=y.o;rw[B.2]at this;simp[h]at this⟩]
    have C:QS (decide (s∈l.take (j+1))=true):=by show _=_;rw[o.o];simp[B.1]
    obtain⟨rfl,rfl⟩:=B;clear M z S o y;go_wp2;exact⟨⟨j+1,by omega,by go_num,by rw[C.o],by rw[HS.o];exact A.o⟩,by simp only[intOf];omega⟩
   ·have HS:QS ((l.take (j+1)).erase s=(l.take j).erase s++[x]):=by show _=_;rw[S.o,el (λh=>B ⟨h.1,by rw[y.o];simp[h.2]⟩)]
    have C:QS (decide (s∈l.take (j+1))=H):=by
     show _=_;rw[o.o];by_cases e:x=s
     ·cases H with
      |true=>rfl
      |false=>exact absurd ⟨e,rfl⟩ B
     ·simp[e]
    have a1:=E B;clear M z S o y B;generalize (l.take j).erase s=out at*;by_cases e:x=s
    ·have a3:H=true:=by
      cases H with
      |true=>rfl
      |false=>exact absurd ⟨e,rfl⟩ a1.o
     subst a3;subst e;go_wp2_with(first|(at_builtin;go_must(refine aL _ rfl _ _ 37 rfl 3 i0 _ 1 8 Tryz.underlying37 hi N P Q rfl (J ob out.length cb) out.length _ rfl (A.o.row.ai (aa.alloc n_ wr _) k_) ⟨wr.heap.size,0,Y⟩ 1 1 [Z U x] rfl rfl (br wr #[Z U x] _) (by simp[Value.oneCell']) (by have:=G.o;unfold maxLen;omega) (by have:=G.o;omega) ?_;intro v' w1 c d _ r;obtain⟨g1,c1,rfl⟩:=c.succ;have HN:=E (A.o.push (a:=x) (aa.alloc n_ wr _) c d r);clear c d r))|fail)
     exact⟨⟨j+1,by omega,by go_num,by rw[C.o],by rw[HS.o];exact HN.o.slice (by simp)⟩,by simp only[intOf];omega⟩
    ·have a7:(x==s)=false:=mK.2 e;clear e;go_wp2_with(first|(at_builtin;go_must(refine aL _ rfl _ _ 37 rfl 3 i0 _ 1 8 Tryz.underlying37 hi N P Q rfl (J ob out.length cb) out.length _ rfl (A.o.row.ai (aa.alloc n_ wr _) k_) ⟨wr.heap.size,0,Y⟩ 1 1 [Z U x] rfl rfl (br wr #[Z U x] _) (by simp[Value.oneCell']) (by have:=G.o;unfold maxLen;omega) (by have:=G.o;omega) ?_;intro v' w1 c d _ r;obtain⟨g1,c1,rfl⟩:=c.succ;have HN:=E (A.o.push (a:=x) (aa.alloc n_ wr _) c d r);clear c d r))|fail)
     exact⟨⟨j+1,by omega,by go_num,by rw[C.o],by rw[HS.o];exact HN.o.slice (by simp)⟩,by simp only[intOf];omega⟩
  ·have HT:QS (l.take j=l):=by show _=_;exact ep (by omega)
   obtain⟨f5,K⟩:=a2.o _ A.o.keep;have a0:=E K;have q:QS (kn 3 R (R.pinned (J ob ((l.take j).erase s).length cb) (l.erase s)) w (wr.setCell ⟨R.b,5,Y⟩ (J ob ((l.take j).erase s).length cb))):=by
    have u:=A.o;rw[HT.o]at u;rw[HT.o];refine aY.Hi HH.o ?_ ?_ ?_ (λg hg=>.inr (u.own g hg))
    ·exact(u.keep.mono (T:=λk=>k=R.b\/R.vp.ownBlock=V k) (λ_ _ h=>h.elim)).tr (aa.setCell _ _ _) (λk h=>.inl h)
    ·rw[ak a0.o];rfl
    ·exact u.row.ai (aa.setCell _ _ _) (λg hg e=>by have:=u.own g hg;have e':g=R.b:=e;omega)
   have C:QS (decide (s∈l.take j)=decide (s∈l)):=by show _=_;rw[HT.o]
   clear K;by_cases m:s∈l
   ·have L:decide (s∈l.take j)=true:=by rw[C.o];exact mI m
    have HA:QS (nD l s=0):=E (fy m);rw[L];clear L m;generalize ((l.take j).erase s).length=n at*;go_wp2;go_ret;exact⟨fV HA.o.symm,_,q.o⟩
   ·have L:decide (s∈l.take j)=false:=by rw[C.o];exact kg m
    have HA:QS (nD l s=1):=E (el m);rw[L];clear L m;generalize ((l.take j).erase s).length=n at*;go_wp2;go_ret;exact⟨fV HA.o.symm,_,q.o⟩
end Go.Proofs.YtjbkfdeldlajhaaGreatDoor
