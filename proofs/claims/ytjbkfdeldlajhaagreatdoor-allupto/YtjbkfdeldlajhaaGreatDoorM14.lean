import Derived.Test.YtjbkfdeldlajhaaGreatDoorM13
set_option linter.unusedSimpArgs false
namespace Go.Proofs.YtjbkfdeldlajhaaGreatDoor
set_option maxRecDepth 100000
set_option maxHeartbeats 1000000
open Go.RowKit Go.Shelf Go.Proofs.Tryz
open Option renaming none->Y,some->V
open Go.Value renaming int->Z,slice->J,pointer->X,string->O
open Go.IntKind renaming i64->U
open Go.Obj renaming cells->I
open Go renaming World->ab,Value->ax,Calls->ba
open Go.Ending renaming returned->ay
variable{w:ab}{a:Nat}{G:List Nat}
theorem Om(R:aF)(s:Int)(w:ab)(h:aq w R)(m:R.pm=Y)(hs:(decide (R.aK<=s)&&decide (s<=R.now))=true):ba prog 33 #[X (V ⟨R.sb,0,Y⟩),Z U s] w λe w'=>e=ay (Z U 0)/\R.aN=[]/\kJ R [(s,1)] w w':=by
 have c0:=mf_;have c1:=@run_makeMap prog;have b7:=Cj;have l:R.aN=[]:=by have:=h.af.dc;rw[m]at this;have h2:(R.aN.map λp=>(p.1,Z U p.2))=[]:=this;simpa using h2
 have a:aa n_ w ((w.alloc (I #[Z U 0] 71)).alloc (I #[J Y 0 0] 114)):=((aa.refl n_ w).al _).al _;have hW:=h.ai a k_;have hh:=rY R s _ hW;rw[hs]at hh;have HH:=E hh;have b9:=h.lt;have c4:w.cell? ⟨R.sb,4,Y⟩=V (.map Y):=(h.cell 4).trans (by rw[<-m];rfl);have r:=hW.ai (aa.alloc n_ _ (.map #[] 0)) k_;have B:=E (BD (w.heap.size+1) [] [w.heap.size+1] R.sb 4 Y (V (w.heap.size+1+1)) _ ((fU w (I #[Z U 0] 71)).ai (aa.alloc n_ _ (.map #[] 0)) k_) ((r.cell 4).trans (by rw[<-m];rfl)) (r.frozen 4) (by simp;omega) (by simp));have G:=E h;have F:=E m;have j:=E l;have b0:=E r;clear hs h hh m hW a l r;go_enter_defers func33,ntmps33;go_wp2_with(first
  |(go_at_call 83;go_must(refine(HH.o).mono ?_;rintro e w1 ⟨rfl,rfl⟩))
  |(go_at_call 84;go_must(refine(B.o).mono ?_;rintro e o ⟨rfl,b1,C0,b2,y,a,K,M⟩;have a6:=E M;clear M)))
 have c:=bG G.o;have g:QS (∀k∈C0,k∉R.fp/\w.heap.size<k/\k≠w.heap.size+1+1/\k<o.heap.size):=λk d=>by
  have Q:=y.lt k d;rcases K k d with h'|h'
  ·simp at h';exact⟨λu=>by have:=c k u;omega,by omega,by omega,Q⟩
  ·simp at h';exact⟨λu=>by have:=c k u;omega,by omega,by omega,Q⟩
 have a5:aQ (Z U) (((w.alloc (I #[Z U 0] 71)).alloc (I #[J Y 0 0] 114)).alloc (.map #[] 0)) (w.heap.size+1+1) []:=by have:=aQ.made (Z U) ((w.alloc (I #[Z U 0] 71)).alloc (I #[J Y 0 0] 114));simpa using this
 have b3:w.heap.size+1+1∉R.fp:=λu=>by have:=c _ u;omega
 have x:=E (b0.o.MD F.o a (λk d u=>by have:=c k u;simp at d;omega) a5 (by simp) b3 a6.o);have c2:w.heap.size+3<=o.heap.size:=by have:=a.size;simp at this;omega
 have A:aQ (Z U) o (w.heap.size+1+1) ([]:List (Int×ax)):=by have:=x.o.af.dc;rw[j.o]at this;exact this
 have d4:o.cell? ⟨R.sb,4,Y⟩=V (.map (V (w.heap.size+1+1))):=x.o.cell 4;have S:=(A.ai (aa.drew n_ _) id).lookup (P:=prog) (t:=55) cY Tryz.underlying55 Tryz.underlying3 (Tryz.lM _) s false;simp only[vg,RL,aD,yg]at S;have HE:=E (tk (w.heap.size+1) b1 C0 (w.heap.size+1+1) s [] 0 1 o.drew (y.ai (aa.drew n_ _) k_) (A.ai (aa.drew n_ _) id) rfl (λz=>(g.o _ z).2.2.1 rfl) (by rw[b2];simp));have a8:QS (aa (λk=>k=R.sb) w o):=(((aa.refl (λk=>k=R.sb) w).al _).al _).al _|>.trans a (λk d h=>by
  rcases h with h|h
  ·simp at h;omega
  ·exact h)
 have C:QS (o.heap[w.heap.size]?=V (I #[Z U 0] 71 (0,0))):=by rw[a.block w.heap.size (by simp;omega) (by rintro(z|z);(simp at z);omega)];exact(Below.heap_alloc _ _ _ (by simp;omega)).trans ((Below.heap_alloc _ _ _ (by simp)).trans (az w _))
 clear A a5 a y c4 B;go_wp2_with fail;go_region_held3(λW=>W.cell? ⟨R.sb,4,Y⟩=V (.map (V (w.heap.size+1+1)))) (go_keep) (first|(go_at_call 85;refine(HE.o).mono ?_;rintro e w2 ⟨rfl,b5,C2,b8,b6,v,b4,a0⟩;have q4:=v.cell (p:=⟨R.sb,4,Y⟩) ((aa.drew n_ o).cell (p:=⟨R.sb,4,Y⟩) d4 id) (by rintro(e|e);exact(g.o _ e).1 (by simp[aF.fp]);(have e':R.sb=w.heap.size+1+1:=e;omega))));have q:w2.heap[w.heap.size]?=V (I #[Z U 0] 71 (0,0)):=by rw[v.block w.heap.size (by show _<o.heap.size;omega) (by rintro(z|z);exact absurd (g.o _ z).2.1 (by omega);omega)];exact C.o
 have y0:w2.cell? ⟨w.heap.size,0,Y⟩=V (Z U 0):=ae q 0;have y1:w2.frozen? ⟨w.heap.size,0,Y⟩=false:=aj q 0;have a7:=E q;have a9:=E a0;have D:=E v;clear q a0 v S d4;go_wp2;refine leaves_cons (f:=82) (args:=#[X (V ⟨w.heap.size+1,0,Y⟩),X (V ⟨w.heap.size,0,Y⟩)]) (by simp) (by simp[go_sem]) ?_;have L:=ak (i:=0) a7.o (Z U 0);refine(Hf (w.heap.size+1) w.heap.size _ ?_).mono ?_
 ·exact ae L 0
 rintro e u' c3 ⟨rfl,rfl,rfl⟩;have n:kJ R [(s,1)] w (w2.setCell ⟨w.heap.size,0,Y⟩ (Z U 0)):=by
  have N:∀k∈aF.fp {R with pm:=V (w.heap.size+1+1)},k∈R.fp\/k=w.heap.size+1+1:=λk d=>by
   rcases cT.1 ((OL F.o _).mem_iff.1 d)with e|h
   ·exact .inr e
   ·exact .inl h
  have s1:=(x.o.ai (aa.drew n_ _) k_).pinned (b:=w.heap.size+1+1) (aN:=[(s,1)]) rfl D.o (λk d u=>by
   obtain⟨a1,a2,a3,a4⟩:=g.o k d;rcases N k u with h|h
   ·exact a1 h
   ·exact a3 h) a9.o
  refine⟨V (w.heap.size+1+1),s1.ai (aa.setCell _ _ _) (λk d e=>?_),?_,.inr ⟨_,rfl,by omega⟩⟩
  ·have e':k=w.heap.size:=e;rcases N k d with h|h
   ·have:=bG G.o k h;omega
   ·omega
  ·refine((a8.o.mono (T:=(·∈R.fp)) (λk _ h=>by rw[h];simp[aF.fp])).trans ((aa.drew n_ o).mono (T:=λk=>k∈C0\/k=w.heap.size+1+1) (λ_ _ h=>h.elim)|>.tr D.o i_) (λk d h=>?_)).st (.inl (eb _)) _;rcases h with h|h
   ·have:=(g.o k h).2.1;omega
   ·omega
 have hb:=ae L 0;generalize w2.setCell ⟨w.heap.size,0,Y⟩ (Z U 0)=W3 at n hb;simp at hb;simp[Leaves,settle,results,Tryz.results33,go_sem,hb];exact⟨j.o,n⟩
theorem tK(l:List (Int×Int))(s:Int):(aD (l.map λp=>(p.1,Z U p.2)) s).getD (Z U 0)=Z U ((aD l s).getD 0):=by rw[cd (λz:Int=>Z U z)];cases aD l s<;>rfl
theorem Gr(R:aF)(s:Int)(w:ab)(h:aq w R)(j:(aD R.aN s).getD 0=0):ba prog 35 #[X (V ⟨R.sb,0,Y⟩),Z U s] w λe o=>e=ay (Z U 1)/\aa n_ w o:=by
 have n:=mf_;have g:=h.ai (((aa.refl n_ w).al (I #[Z U 0] 71)).al (I #[J Y 0 0] 114)) k_;have b:=g.af.dc.lookup (P:=prog) (t:=55) cY Tryz.underlying55 Tryz.underlying3 (Tryz.lM _) s false;simp only[vg,RL,tK,j]at b;have q:w.cell? ⟨R.sb,4,Y⟩=V (.map R.pm):=h.cell 4;have m:=h.lt;have l:R.sb<w.heap.size+1:=by omega
 clear h g j;generalize R.sb=u at*;generalize R.pm=r at*;go_enter_defers func35,ntmps35;go_wp2;refine leaves_cons (f:=87) (args:=#[X (V ⟨w.heap.size+1,0,Y⟩),X (V ⟨w.heap.size,0,Y⟩)]) (by simp) (by simp[go_sem]) ?_;refine(DN (w.heap.size+1) w.heap.size 1 (by omega) _ ?_ ?_).mono ?_
 ·simp[go_sem]
 ·simp[go_sem]
 rintro e v c ⟨rfl,rfl,i⟩;have k:c.cell? ⟨w.heap.size,0,Y⟩=V (Z U 1):=i.cell (p:=⟨w.heap.size,0,Y⟩) (by simp[go_sem]) id;simp[Leaves,settle,results,Tryz.results35,go_sem,k];exact(((aa.refl _ w).al _).al _).tr i i_
theorem ME(l:List (Int×Int))(s:Int):del (l.map λp=>(p.1,Z U p.2)) s=(del l s).map λp=>(p.1,Z U p.2):=nR (λz:Int=>Z U z) l s
theorem Hg{R:aF}(h:aq w R){s:Int}(a:(aD R.aN s).getD 0≠0):∃b,R.pm=V b:=by
 cases hpm:R.pm with
 |some b=>exact⟨b,rfl⟩
 |none=>
  have:=h.af.dc;rw[hpm]at this;have c:(R.aN.map λp=>(p.1,Z U p.2))=[]:=this;have d:R.aN=[]:=by simpa using c
  rw[d]at a;exact absurd rfl a
theorem Gp(R:aF)(s:Int)(w:ab)(h:aq w R)(K:(aD R.aN s).getD 0=1):ba prog 35 #[X (V ⟨R.sb,0,Y⟩),Z U s] w λe w'=>e=ay (Z U 0)/\kJ R (del R.aN s) w w':=by
 obtain⟨b,c⟩:=Hg h (s:=s) (by rw[K];omega);have a5:=mf_;have j:aa n_ w ((w.alloc (I #[Z U 0] 71)).alloc (I #[J Y 0 0] 114)):=((aa.refl n_ w).al _).al _;have D:=h.ai j k_;have r:b∈R.fp:=(bH R).mem_iff.2 (ef _ (fQ _ (by simp[cL,c])));have a1:=bG h _ r;have a4:=h.lt;have a3:R.sb<w.heap.size+1:=by omega
 have c4:w.cell? ⟨R.sb,4,Y⟩=V (.map (V b)):=(h.cell 4).trans (by rw[<-c];rfl);have C:aQ (Z U) ((w.alloc (I #[Z U 0] 71)).alloc (I #[J Y 0 0] 114)) b (R.aN.map λp=>(p.1,Z U p.2)):=by have:=D.af.dc;rw[c]at this;exact this
 have a:(aD (R.aN.map λp=>(p.1,Z U p.2)) s).getD (Z U 0)=Z U 1:=by rw[tK,K]
 have H:=C.lookup (P:=prog) (t:=55) cY Tryz.underlying55 Tryz.underlying3 (Tryz.lM _) s false;simp only[vg,RL,a]at H;have S:=E (FP (w.heap.size+1) [] [w.heap.size+1] b s _ 1 _ (fU w (I #[Z U 0] 71)) C a (by simp;omega) (by simp));have n:=E h;have B:=E c;have T:=E D;have z:=E j;clear K h C c a D j;go_enter_defers func35,ntmps35;go_wp2_with(go_at_call 88;go_must(refine(S.o).mono ?_;rintro e v ⟨rfl,W,C2,a2,a0,l,M,u⟩;have g:v.heap[w.heap.size]?=V (I #[Z U 0] 71 (0,0)):=((l.block w.heap.size (by simp;omega) (by rintro(N|N);(simp at N);omega)).trans (Below.heap_alloc _ _ _ (by simp))).trans (az w _);have y0:v.cell? ⟨w.heap.size,0,Y⟩=V (Z U 0):=ae g 0;have y1:v.frozen? ⟨w.heap.size,0,Y⟩=false:=aj g 0;have y:=E g;have A:=E u;have m:=E l;clear g u l))
 refine leaves_cons (f:=87) (args:=#[X (V ⟨w.heap.size+1,0,Y⟩),X (V ⟨w.heap.size,0,Y⟩)]) (by simp) (by simp[go_sem]) ?_;have q:=ak (i:=0) y.o (Z U 0);refine(zS (w.heap.size+1) w.heap.size _ ?_).mono ?_
 ·exact ae q 0
 rintro e u' a6 ⟨rfl,rfl,rfl⟩;have d:kJ R (del R.aN s) w (v.setCell ⟨w.heap.size,0,Y⟩ (Z U 0)):=by
  have Q:=A.o;rw[ME]at Q;have s1:=T.o.pinned B.o m.o (λk x hf=>by have:=bG n.o k hf;simp at x;omega) Q;refine⟨R.pm,s1.ai (aa.setCell _ _ _) (λk x e=>?_),?_,.inl rfl⟩
  ·have e':k=w.heap.size:=e;have G:k∈R.fp:=x;have:=bG n.o k G;omega
  ·refine((z.o.mono (λ_ _ h=>h.elim)).trans m.o (λk x h=>?_)).st (.inl (eb _)) _;rcases h with h|h
   ·simp at h;omega
   ·rw[h];exact r
 have F:=ae q 0;generalize v.setCell ⟨w.heap.size,0,Y⟩ (Z U 0)=W3 at d F;simp at F;simp[Leaves,settle,results,Tryz.results35,go_sem,F];exact d
theorem Gq(R:aF)(s c:Int)(w:ab)(h:aq w R)(S:(aD R.aN s).getD 0=c)(a4:2<=c)(a5:c<=1000000000000000):ba prog 35 #[X (V ⟨R.sb,0,Y⟩),Z U s] w λe w'=>e=ay (Z U 0)/\kJ R (put R.aN s (c-1)) w w':=by
 obtain⟨b,a⟩:=Hg h (s:=s) (by rw[S];omega);have a9:=mf_;have o:aa n_ w ((w.alloc (I #[Z U 0] 71)).alloc (I #[J Y 0 0] 114)):=((aa.refl n_ w).al _).al _;have L:=h.ai o k_;have y:b∈R.fp:=(bH R).mem_iff.2 (ef _ (fQ _ (by simp[cL,a])));have a3:=bG h _ y;have a8:=h.lt;have a7:R.sb<w.heap.size+1:=by omega
 have Q:R.sb≠b:=λe=>by have z:=(bH R).nodup_iff.1 h.nodup;rw[ey]at z;exact z.1 (e▸fQ _ (by simp[cL,a]))
 have c4:w.cell? ⟨R.sb,4,Y⟩=V (.map (V b)):=(h.cell 4).trans (by rw[<-a];rfl);have B:aQ (Z U) ((w.alloc (I #[Z U 0] 71)).alloc (I #[J Y 0 0] 114)) b (R.aN.map λp=>(p.1,Z U p.2)):=by have:=L.af.dc;rw[a]at this;exact this
 have d:(aD (R.aN.map λp=>(p.1,Z U p.2)) s).getD (Z U 0)=Z U c:=by rw[tK,S]
 have m:=B.lookup (P:=prog) (t:=55) cY Tryz.underlying55 Tryz.underlying3 (Tryz.lM _) s false;have n:=(B.ai (aa.drew n_ _) id).lookup (P:=prog) (t:=55) cY Tryz.underlying55 Tryz.underlying3 (Tryz.lM _) s false;simp only[vg,RL,d]at m n;have K:=E (show IntKind.i64.wrap (c-1)=c-1 from IntWalk.i64_in _ ⟨by omega,by omega⟩);have HE:=E (tk (w.heap.size+1) [] [w.heap.size+1] b s _ c (IntKind.i64.wrap (c-1)) _ ((fU w (I #[Z U 0] 71)).ai (aa.drew n_ _) k_) (B.ai (aa.drew n_ _) id) d (by simp;omega) (by simp));have b0:(c==0)=false:=mK.2 (by omega);have b1:(c==1)=false:=mK.2 (by omega);have u:=E h;have H:=E a;have HW:=E L;have F:=E o;clear S h B a d L o;go_enter_defers func35,ntmps35;go_wp2_with fail;go_region_held3(λW=>W.cell? ⟨R.sb,4,Y⟩=V (.map (V b))) (go_keep) (first|(go_at_call 85;refine(HE.o).mono ?_;rintro e A ⟨rfl,a1,C2,a6,a2,l,a0,q⟩;rw[K.o]at q;have q4:=l.cell (p:=⟨R.sb,4,Y⟩) ((((aa.refl n_ w).al _).al _).dr.cell c4 id) (by rintro(e|e);((simp at e);omega);exact Q e)));have j:A.heap[w.heap.size]?=V (I #[Z U 0] 71 (0,0)):=by rw[l.block w.heap.size (by simp[World.drew];omega) (by rintro(hc|hc);(simp at hc);omega)];exact(Below.heap_alloc _ _ _ (by simp)).trans (az w _)
 have y0:A.cell? ⟨w.heap.size,0,Y⟩=V (Z U 0):=ae j 0;have y1:A.frozen? ⟨w.heap.size,0,Y⟩=false:=aj j 0;have D:=E j;have G:=E q;have r:=E l;clear j q l m n;go_wp2;refine leaves_cons (f:=87) (args:=#[X (V ⟨w.heap.size+1,0,Y⟩),X (V ⟨w.heap.size,0,Y⟩)]) (by simp) (by simp[go_sem]) ?_;have x:=ak (i:=0) D.o (Z U 0);refine(zS (w.heap.size+1) w.heap.size _ ?_).mono ?_
 ·exact ae x 0
 rintro e u' b2 ⟨rfl,rfl,rfl⟩;have g:kJ R (put R.aN s (c-1)) w (A.setCell ⟨w.heap.size,0,Y⟩ (Z U 0)):=by
  have hm:=G.o;rw[CT]at hm;have s1:=(HW.o.ai (aa.drew n_ _) k_).pinned H.o r.o (λk C hf=>by have:=bG u.o k hf;simp at C;omega) hm;refine⟨R.pm,s1.ai (aa.setCell _ _ _) (λk C e=>?_),?_,.inl rfl⟩
  ·have e':k=w.heap.size:=e;have N:k∈R.fp:=C;have:=bG u.o k N;omega
  ·refine(((F.o.dr).mono (λ_ _ h=>h.elim)).trans r.o (λk C h=>?_)).st (.inl (eb _)) _;rcases h with h|h
   ·simp at h;omega
   ·rw[h];exact y
 have M:=ae x 0;generalize A.setCell ⟨w.heap.size,0,Y⟩ (Z U 0)=W3 at g M;simp at M;simp[Leaves,settle,results,Tryz.results35,go_sem,M];exact g
theorem Dp{g n b cap':Nat}{c:List ByteArray}(h:Row w 9 1 (J (V ⟨g,0,Y⟩) n b) n (c.map O))(d:n=c.length)(l:a<=n)(e:n-a<=cap')(f:cap'<=maxLen)(j:g∈G):pd G w (J (V ⟨g,a,Y⟩) (n-a) cap') (c.drop a):=by refine .inr ⟨g,a,cap',j,by rw[mR,d],by rw[mR,<-d];exact e,f,λi k=>?_⟩;rw[mR]at k;rw[h.cellAt (a+i) (by omega)];simp only[vk,SZ];rw[ec (by omega)];rfl
theorem sE{c:Option Addr}{b:List ByteArray}(h:b=[]):pd G w (J c 0 a) b:=.inl ⟨h,c,a,rfl⟩
theorem qB(R:aF)(a:ByteArray)(w:ab)(h:aq w R)(N:bh R.keys)(L:R.keys.length<1000000000000):ba prog 126 #[X (V ⟨R.sb,7,Y⟩),O a] w λe z=>∃v,e=ay v/\pd R.kv.ownBlock.toList z v (R.keys.drop (below R.keys a))/\aa n_ w z:=by
 have s:=je R.kv R.keys a w h.cg.cW N (by omega);have j:w.cell? ⟨R.sb,7,Y⟩=V R.kv:=h.cell 7;have i:=iF R.keys a;have c:=E s;have b:=E h.cg.cW;rcases h.cg.cW.2 with⟨e,x⟩|⟨g,k,B,e,K,C,y,D,F⟩
 ·have l:R.keys=[]:=hU x;rw[l]at c⊢;rw[e]at j c⊢;have o:below ([]:List ByteArray) a=0:=rfl;rw[o]at c;clear h s e x b i l;generalize bR [] a=m at c;simp only[Int.natCast_zero]at c;go_enter func126,ntmps126;go_wp2_with(go_at_call 170;go_must(refine(c.o).mono ?_;rintro e A ⟨rfl,f⟩;have u:=f.cell (p:=⟨R.sb,7,Y⟩) j id))
  go_region;go_wp2;go_ret;exact⟨_,rfl,sE (by simp),f.dr⟩
 ·rw[e]at j c b⊢;clear h s e K D F;generalize bR R.keys a=m at c;generalize below R.keys a=d at*;obtain⟨n,r⟩:∃n,n=R.keys.length:=⟨_,rfl⟩
  rw[<-r]at j c b i C L;have t:=E r;have H:k<=maxLen:=y;unfold maxLen at y;clear r;by_cases q:d=n
  ·subst q;go_enter func126,ntmps126;go_wp2_with(go_at_call 170;go_must(refine(c.o).mono ?_;rintro e A ⟨rfl,f⟩;have u:=f.cell (p:=⟨R.sb,7,Y⟩) j id))
   go_region;go_wp2;go_ret;refine⟨_,rfl,?_,f.dr⟩;have o:R.keys.drop d=[]:=by rw[t.o];simp
   rw[o];exact sE rfl
  ·have M:d<n:=by omega
   go_enter func126,ntmps126;go_wp2_with(go_at_call 170;go_must(refine(c.o).mono ?_;rintro e A ⟨rfl,f⟩;have u:=f.cell (p:=⟨R.sb,7,Y⟩) j id))
   go_region;go_wp2;go_ret;refine⟨_,rfl,?_,f.dr⟩;have:=Dp (cap':=n-d) (G:=(J (V ⟨g,0,Y⟩) R.keys.length k).ownBlock.toList) (b.o.ai f.dr k_) t.o (by omega) (eb _) (by omega) (by simp[Value.ownBlock]);exact this
theorem Jr(wb mb:Nat)(a:ByteArray)(l:List (ByteArray×ax))(w:ab)(hc:w.cell? ⟨wb,1,Y⟩=V (.map (V mb)))(hm:aQ O w mb l)(r:∀p∈l,p.1.size<=maxLen)(hl:l.length<=1000000):ba prog 127 #[X (V ⟨wb,0,Y⟩),O a] w λe q=>∃v b G,e=ay v/\pd G q v (b.drop (below b a))/\bh b/\b.Perm (l.map (·.1))/\aa n_ w q/\(∀k∈G,w.heap.size<k/\k<q.heap.size):=by
 have T:=hm.nodup;obtain⟨D,M,N,B⟩:=hm.owns r (by unfold maxLen;omega);have a2:=λW:ab=>True;have Q:=Tryz.slices_Sorted_keys_157_171 mb l.length D _ w M (by rw[B];unfold maxLen;omega) (by rw[B];omega);have u:QS ((strKeys D).Perm (l.map (λp=>p.1.data.toList))):=N;have a3:QS ((l.map (·.1)).Nodup):=T;have HL:QS (l.length<=1000000):=hl;clear M N B T hm r hl a2;refine(callsIn_wide (n:=6)).1 ?_;have a8:Fence.wide.fn 171:=trivial;have a9:Fence.wide.fn 157:=trivial;have a7:Fence.wide.fn 170:=trivial;refine callsIn_of_wp func127 rfl trivial ?_ rfl;simp only[ntmps127,vE,fN,pa,Nat.reduceAdd,Nat.reduceSub,QW,QX,Rv,Re,uE,tI];gi_wp2_with (first
  |(gi_at_call 171;go_must(refine(Tryz.maps_Keys_171 _ _).mono ?_;rintro e q ⟨rfl,rfl⟩))
  |(gi_at_call 157;go_must(refine Q.mono ?_;rintro e q ⟨v,f,rfl,hS,o,a0,hb⟩)))
 have t:bh (cN f):=nJ ((hS.trans u.o).nodup_iff.2 (by
  have:=a3.o;have e:l.map (λp=>p.1.data.toList)=(l.map (·.1)).map (λk=>k.data.toList):=by rw[tO];rfl
  rw[e];exact jS (λ_ _ h=>data_inj h) this))
 have d:(cN f).Perm (l.map (·.1)):=pf (by have:=hS.trans u.o;rwa[show l.map (λp=>p.1.data.toList)=(l.map (·.1)).map (λk=>k.data.toList)from by rw[tO];rfl]at this)
 have m:(cN f).length=f.length:=by simp[cN]
 have P:Row q 9 1 v (cN f).length ((cN f).map O):=by
  rw[m];have:=pT o;have e:(cN f).map O=(f.mergeSort (λx y=>decide (x<=y))).map encStr:=by simp[cN,tQ]
  rw[e];exact this
 have a1:f.length=l.length:=by have:=(hS.trans u.o).length_eq;simpa using this
 have H:=je v (cN f) a q P t (by rw[m,a1];have:=HL.o;omega);have i:=iF (cN f) a;have F:aa n_ w q:=((aa.refl _ w).al _).tr (aa.below hb) i_;generalize bR (cN f) a=mb1 at H;generalize cN f=b at*;have HW:QS (∀k,v.ownBlock=V k->w.heap.size<k):=λk r=>by have:=(o.lt k r).1;simp at this;omega
 clear Q hS o a0 hb a1 m;have HR:QS (Row q 9 1 v b.length (b.map O)):=P;have HK:QS (bh b):=t;have HP:QS (b.Perm (l.map (·.1))):=d;have z:QS (aa n_ w q):=F;rcases P.shape with⟨rfl,h0⟩|⟨g,s,rfl,C,j⟩
 ·have A:b=[]:=hU h0;have R:below b a=0:=by rw[A];rfl
  rw[R]at H;have H0:=E A;clear P t d F i R A;gi_wp2_with (gi_at_call 170;go_must(refine(callsIn_wide.2 H).mono ?_;rintro e w2 ⟨rfl,c⟩))
  go_ret;exact⟨_,b,[],rfl,sE (by rw[H0.o];rfl),HK.o,HP.o,z.o.tr c i_,λk r=>(by cases r)⟩
 ·clear P t d F;have a6:s<=maxLen:=j;unfold maxLen at j;have S:w.heap.size<g/\g<q.heap.size:=⟨HW.o g rfl,HR.o.lt rfl⟩
  generalize hbe:below b a=L at*;have K:=E hbe;clear hbe;obtain⟨n,hn⟩:∃n,n=b.length:=⟨_,rfl⟩
  rw[<-hn]at H HR i C;have HN:=E hn;rw[<-hn];clear hn;by_cases a4:L=s
  ·have a5:n=s:=by omega
   subst a4;subst a5;gi_wp2_with (gi_at_call 170;go_must(refine(callsIn_wide.2 H).mono ?_;rintro e w2 ⟨rfl,c⟩))
   go_ret;exact⟨_,b,[],rfl,sE (by rw[K.o,HN.o];simp),HK.o,HP.o,z.o.tr c i_,λk r=>(by cases r)⟩
  ·have b0:L<s:=by omega
   gi_wp2_with (gi_at_call 170;go_must(refine(callsIn_wide.2 H).mono ?_;rintro e w2 ⟨rfl,c⟩))
   go_ret;refine⟨_,b,[g],rfl,?_,HK.o,HP.o,z.o.tr c i_,λk r=>?_⟩
   ·rw[K.o];exact Dp (HR.o.ai c k_) HN.o i (by omega) (by omega) (by simp)
   ·have e:k=g:=by simpa using r
    rw[e];exact⟨S.1,kz S.2 c.size⟩
end Go.Proofs.YtjbkfdeldlajhaaGreatDoor
namespace Go.Proofs.YtjbkfdeldlajhaaGreatDoor
set_option maxRecDepth 100000
set_option maxHeartbeats 1000000
open Go.RowKit Go.Shelf Go.Proofs.Tryz
open Option renaming none->Y,some->V
open Go.Value renaming string->O,slice->J,pointer->X,bool->ao
open Go renaming World->ab,Value->ax,Calls->ba
open Go.Ending renaming returned->ay
attribute [local go_sem] Oper.semAt_some
section
variable{F:Fence} {n:Nat} {P:Program}
def KY{α:Type}(F:Fence)(n:Nat)(P:Program)(g:Nat)(k:Array ax)(c:α->Array ax)(C i:ab->ab->Prop)(S j:List α->Prop)(N:Nat)(w:ab):Prop:=
 ∀(l:Nat) (m h:List α->ab->Prop) (W:ab),aa n_ w W->(∀a A B,C A B->m a A->m a B)->(∀a x f,m a f->a.length<N->YieldAt F (n-1) P l (c x) f λe b=>(e=ay (ao true)/\m (a++[x]) b/\i f b)\/(e=ay (ao false)/\h (a++[x]) b))->m [] W->CallsIn F n P g (#[.func (.yield l) #[] #[]]++k) W λe b=>(∃v,e=ay v)/\((∃d,S d/\m d b)\/∃d,j d/\h d b)
def GR{α:Type}(B:Nat)(c:ab->ab->Prop)(d:List α->ab->Prop)(b:Code->List α->ab->Prop)(a:List α)(W:ab):Exit->Act->ab->Prop
 |.normal,_,W'=>KeepsFrom B W W'/\c W W'/\d a W'
 |.exit id,_,W'=>KeepsFrom B W W'/\b (.exit id) a W'
 |_,_,_=>False
theorem xV{α:Type}{g:Operand}{ps:Array Tmp}{assign body:Code}{Q:Exit->Act->ab->Prop}{a:Act}{w:ab}(c0:F.round=Y)(h1:1<=n){gf:Nat}{lb:Array ax}(hg:a.eval g=.func (.func gf) #[] lb)(b1:F.fn gf)(eg:∀args w,(callFunc gf args).run P w=.ok (.enter gf args) w){i:α->Array ax}{C M:ab->ab->Prop}{S Sp:List α->Prop}{N:Nat}(a9:KY F (n-1) P gf lb i C M S Sp N w)(T:∀A B k,C A B->w.heap.size<=k->(∃o,A.heap[k]?=V o/\o.isCells=false)->B.heap[k]?=A.heap[k]?)(a2:∀{A B D:ab},M A B->M B D->M A D)(a1:∀(W:ab) (l:Nat) (o':Obj),w.heap.size<=l->M W (W.putObj l o'))(b9:∀x,(i x).size=ps.size)(c1:List α->ab->Prop)(Ix:Code->List α->ab->Prop)(hI:OwnFrom w.heap.size c1)(a0:∀c,OwnFrom w.heap.size (Ix c))(b3:∀d A B,C A B->c1 d A->c1 d B)(h0:c1 [] w)(a₁:α->Act)(m:∀(l:Nat) (x:α) (W:ab) (K:Act->ab->Prop),K (a₁ x) W->assign.wpIn (F.inRound l) (n-1-1) P (Exit.then K (λ_ _ _=>False)) {tmps:=(ps.zip (i x)).foldl (λt (p,v)=>t.setIfInBounds p v) a.tmps,defers:=[]} W)(y:∀(l:Nat) (d:List α) (x:α) (W:ab),c1 d W->d.length<N->body.wpIn (F.inRound l) (n-1-1) P (GR w.heap.size M c1 Ix (d++[x]) W) (a₁ x) W)(z:∀(D:Nat) (L:List α) (W:ab),w.heap.size<=D->S L->c1 L W->W.heap[D]?=V (.deferred (V []))->Q .normal {a with defers:={target:=.collected D,args:=#[]}::a.defers} W)(H:∀(D:Nat) (c:Code) (L:List α) (W:ab),w.heap.size<=D->Sp L->Ix c L W->W.heap[D]?=V (.deferred (V []))->c.wpIn F n P Q {a with defers:={target:=.collected D,args:=#[]}::a.defers} W):(Code.rangeFunc g ps assign body).wpIn F n P Q a w:=by
 refine wpIn_rangeFunc ?_;intro fn b6;rw[c0];obtain⟨f,b⟩:∃f:LoopState->Option Code->Loop,f=λst pe=>{state:=st,pending:=pe,fn,tmps:=a.tmps,params:=ps,assign,body,defers:=w.heap.size}:=⟨_,rfl⟩
 obtain⟨s,j⟩:∃s,(w.alloc (.deferred (V []))).alloc (.loop (f .ready Y))=s:=⟨_,rfl⟩
 have b7:aa n_ w s:=by rw[<-j];exact((aa.refl _ w).al _).al _
 have b4:s.heap[w.heap.size+1]?=V (.loop (f .ready Y)):=by rw[<-j];have:=az (w.alloc (.deferred (V []))) (.loop (f .ready Y));rwa[World.size_alloc]at this
 have b0:s.heap[w.heap.size]?=V (.deferred (V [])):=by rw[<-j];exact(Below.heap_alloc _ _ _ (by simp)).trans (az w _)
 have b2:c1 [] s:=by rw[<-j];exact hI.alloc _ (hI.alloc _ h0)
 refine⟨w.heap.size+1,[{target:=.collected w.heap.size,args:=#[]}],s,{target:=.fn (.func gf) lb,args:=#[.func (.yield (w.heap.size+1)) #[] #[]]},s,gf,#[.func (.yield (w.heap.size+1)) #[] #[]]++lb,s,?_,?_,?_,?_,λ_=>h1,?_⟩
 ·rw[<-j,b];exact run_enterLoop_outer _ _ _ _ _
 ·simp only[resolve,hg];simp[go_sem]
 ·intro f' a4;simp[Target.leads]at a4;subst a4;exact b1
 ·simp[invoke,go_sem,eg]
 ·refine(a9 (w.heap.size+1) (λd W=>c1 d W/\W.heap[w.heap.size+1]?=V (.loop (f .ready Y))/\W.heap[w.heap.size]?=V (.deferred (V []))) (λd W=>∃c,Ix c d W/\W.heap[w.heap.size+1]?=V (.loop (f .done (V c)))/\W.heap[w.heap.size]?=V (.deferred (V []))) s b7 (λd A B hC hJ=>⟨b3 d A B hC hJ.1,(T A B _ hC (by omega) ⟨_,hJ.2.1,rfl⟩).trans hJ.2.1,(T A B _ hC (eb _) ⟨_,hJ.2.2,rfl⟩).trans hJ.2.2⟩) ?_ ⟨b2,b4,b0⟩).mono ?_
  ·rintro d x W ⟨hi,u,hk⟩ a8;have b8:w.heap.size+1<W.heap.size:=(lg u);have hy:=run_yield (P:=P) (args:=i x) u (by rw[b];exact b9 x);rw[b]at hy;refine⟨fn,_,assign,body,hy,roundIn_of_wpIn b6 (m _ x W _ ⟨_,run_beginRound u (by rw[b]),?_⟩)⟩;have a7:(W.putObj (w.heap.size+1) (.loop {f .ready Y with state:=.busy})).heap[w.heap.size+1]?=V (.loop {f .ready Y with state:=.busy}):=World.putObj_heap_same b8;have a5:(W.putObj (w.heap.size+1) (.loop {f .ready Y with state:=.busy})).heap[w.heap.size]?=V (.deferred (V [])):=(World.putObj_heap_other (by omega)).trans hk;refine wpIn_mono (y _ d x _ (hI.putObj _ hi (by omega) u rfl) a8) ?_;rintro e a3 W3 R;cases e with
   |normal=>
    obtain⟨q,a6,G⟩:=R;have h:=q.same _ _ (by omega) a7 rfl;have hr:=run_endRound (P:=P) Y h;have r:W3.heap[w.heap.size+1]?=V (.loop {f .ready Y with state:=.busy}):=h;rw[b]at hr;refine⟨_,_,hr,.inl ⟨rfl,⟨hI.putObj _ G (by omega) r rfl,?_,?_⟩,a2 (a2 (a1 _ _ _ (by omega)) a6) (a1 _ _ _ (by omega))⟩⟩
    ·rw[b];exact World.putObj_heap_same (lg h)
    ·exact(World.putObj_heap_other (by omega)).trans (q.same _ _ (eb _) a5 rfl)
   |ret=>exact R.elim
   |exit id=>
    obtain⟨q,G⟩:=R;have h:=q.same _ _ (by omega) a7 rfl;have hr:=run_endRound (P:=P) (V (.exit id)) h;have r:W3.heap[w.heap.size+1]?=V (.loop {f .ready Y with state:=.busy}):=h;rw[b]at hr;refine⟨_,_,hr,.inr ⟨rfl,.exit id,(a0 _).putObj _ G (by omega) r rfl,?_,?_⟩⟩
    ·rw[b];exact World.putObj_heap_same (lg h)
    ·exact(World.putObj_heap_other (by omega)).trans (q.same _ _ (eb _) a5 rfl)
   |goto t=>exact R.elim
   |panic ch=>exact R.elim
   |outgrown=>exact R.elim
  ·rintro e W2 ⟨⟨v,rfl⟩,(⟨L,hS,hi,u,hk⟩|⟨d,b5,c,hi,u,hk⟩)⟩;rotate_left
   ·exact⟨V c,_,by have:=run_endLoop (P:=P) u (by rw[b];simp);rw[b]at this;exact this,H _ c d _ (eb _) b5 ((a0 c).putObj _ hi (by omega) u rfl) ((World.putObj_heap_other (by omega)).trans hk)⟩
   exact⟨Y,_,by have:=run_endLoop (P:=P) u (by rw[b];simp);rw[b]at this;exact this,z _ L _ (eb _) hS (hI.putObj _ hi (by omega) u rfl) ((World.putObj_heap_other (by omega)).trans hk)⟩
end
theorem CE(G:List Nat)(n o:Nat)(a b:List ByteArray)(w:ab)(c3:n∉G)(c4:o∉G)(c0:n≠o)(hG:∀k∈G,k<w.heap.size)(h:oT G n o a b [] w):KY Fence.wide 7 prog 167 #[X (V ⟨n,0,Y⟩),X (V ⟨o,0,Y⟩)] (λx:ByteArray=>#[O x]) (aa (λk=>k=n\/k=o)) (OX (n::o::G)) (λxs=>jM a b [] [] xs) (λxs=>∃g d,jM a b g d xs) (a.length+b.length) w:=by
 intro l c7 Jx W hW a9 hY h0;have b8:oT G n o a b [] W:=by obtain⟨va,vb,g,d,h1,h2,h3,h4,h5⟩:=h;have m:∀k∈G,W.heap[k]?=w.heap[k]?:=λk m=>hW.block k (hG k m) id;exact⟨va,vb,g,d,(hW.block n (lg h1) id).trans h1,(hW.block o (lg h2) id).trans h2,h3.ai m,h4.ai m,h5⟩
 refine callsIn_of_wp func167 rfl trivial ?_ rfl;simp only[ntmps167,vE,fN,pa,Nat.reduceAdd,Nat.reduceSub,QW,QX,Rv,Re,uE,tI];gi_wp2;gi_loopw [4] (λ_ wr=>∃f,c7 f wr/\oT G n o a b f wr/\∀k∈G,k<wr.heap.size) (λ_ wr=>jh wr n+jh wr o)
 case atStart=>exact⟨[],h0,b8,λk m=>kz (hG k m) hW.size⟩
 case round=>
  obtain⟨f,hJ,⟨va,vb,g,d,h1,h2,h3,h4,h5⟩,b7⟩:=hrel;clear b8 h0 h hW;obtain⟨oa,ca,rfl⟩:=h3.form;obtain⟨ob,cb,rfl⟩:=h4.form;by_cases t:g=[]/\d=[]
  ·obtain⟨rfl,rfl⟩:=t;have c1:=ae h1 0;have c2:=ae h2 0;have HJ:=E hJ;have H5:=E h5;simp at c1 c2;clear h1 h2 h3 h4 h5 hJ a9 hY;gi_wp2;go_end0;exact⟨⟨_,rfl⟩,.inl ⟨f,H5.o,HJ.o⟩⟩
  ·have q:g≠[]\/d≠[]:=by
    by_cases e:g=[]
    ·exact .inr (λD=>t ⟨e,D⟩)
    ·exact .inl e
   have u:=E (Jy _ _ g d wr h3 h4 q);have B:=E (h5.step q);have a3:=E (od g d q);have b4:QS (f.length<a.length+b.length):=by have h8:=h5.len;have h9:=od g d q;show _<_;omega
   generalize dJ g d=c at u B a3;have c1:=ae h1 0;have c2:=ae h2 0;simp at c1 c2;have H1:=E h1;have H2:=E h2;have H3:=E h3;have H4:=E h4;have HJ:=E hJ;have Q:=E a9;have HY:=E hY;have K:(0<g.length)\/(g.length=0/\0<d.length):=by
    rcases Ry g.length with e|e
    ·right;refine⟨e,?_⟩
     have:d.length≠0:=λD=>t ⟨hU e,hU D⟩
     omega
    ·left;exact e
   have P:QS (∀k∈G,k<wr.heap.size):=b7;clear h1 h2 h3 h4 h5 hJ a9 hY t q b7;generalize hna:g.length=na at u H1 H2 H3 H4 c1 c2 K;have b5:=E hna;clear hna;rcases K with b9|⟨b9,c6⟩
   ·gi_wp2_with (refine⟨trivial,?_⟩;gi_at_call 168;go_must(refine(callsIn_wide.2 u.o).mono ?_;rintro e s ⟨rfl,k1⟩;have S:=(k1.block n (lg H1.o) id).trans H1.o;have T:=(k1.block o (lg H2.o) id).trans H2.o;have e1:=ae S 0;have D:=ae T 0;have f1:=aj S 0;have f2:=aj T 0;simp at e1 D;have D1:=E S;have D2:=E T;have K1:=E k1;clear S T k1 c1 c2))
    obtain⟨b2,i⟩:∃v,v=gw (J oa na ca) (mV g c):=⟨_,rfl⟩
    obtain⟨b3,j⟩:∃v,v=gw (J ob d.length cb) (mV d c):=⟨_,rfl⟩
    have r:∀k∈G,s.heap[k]?=wr.heap[k]?:=λk m=>K1.o.block k (P.o k m) id;have S3:=E (H3.o.ai r);have S4:=E (H4.o.ai r);have y:QS (∀W,(∀k∈G,W.heap[k]?=s.heap[k]?)->ba prog 169 #[J oa na ca,O c] W λe w'=>e=ay b2/\w'=W):=λW m=>by have:=nM _ c g W (S3.o.ai m);rwa[<-i]at this
    have z:QS (∀W,(∀k∈G,W.heap[k]?=s.heap[k]?)->ba prog 169 #[J ob d.length cb,O c] W λe w'=>e=ay b3/\w'=W):=λW m=>by have:=nM _ c d W (S4.o.ai m);rwa[<-j]at this
    have T3:=E (S3.o.behind c);have T4:=E (S4.o.behind c);rw[<-i]at T3;rw[<-j]at T4;clear i j r;obtain⟨b0,a7,rfl⟩:=T3.o.form;obtain⟨b1,a8,rfl⟩:=T4.o.form;have a2:QS (aa (λk=>k=n\/k=o) wr (((s.setCell ⟨n,0,Y⟩ (J b0 (cf g c).length a7)).setCell ⟨o,0,Y⟩ (J b1 (cf d c).length a8)).drew)):=(((K1.o.mono (λ_ _ h=>h.elim)).trans (aa.setCell _ _ _) (λk _ e=>.inl e)).trans (aa.setCell _ _ _) (λk _ e=>.inr e)).dr;have C:=E (HY.o f c _ (Q.o f wr _ a2.o HJ.o) b4.o);have a0:QS (∀k∈G,k<s.heap.size):=λk m=>kz (P.o k m) K1.o.size;have M:jh wr n+jh wr o=g.length+d.length:=by rw[b5.o];simp[jh,ae H1.o 0,ae H2.o 0]
    have a4:=E M;clear M;gi_region_with (first
     |(refine⟨trivial,?_⟩;gi_at_call_has 169 (J oa na ca);go_must(refine(callsIn_wide.2 (y.o s.drew (λ_ _=>rfl))).mono ?_;rintro e wz ⟨rfl,rfl⟩))
     |(refine⟨trivial,?_⟩;gi_at_call_has 169 (J ob d.length cb);go_must(refine(callsIn_wide.2 (z.o s.drew (λ_ _=>rfl))).mono ?_;rintro e wz ⟨rfl,rfl⟩)))
    all_goals
     obtain⟨fn,c5,R,b6,hy,hR⟩:=C.o;clear C HY Q y z u;gi_wp2;refine hR.mono ?_;rintro e W4 (⟨rfl,F,L⟩|⟨rfl,H⟩);rotate_left
     ·have a6:=E H;clear H hy hR e1 D f1 f2;gi_wp2;refine bodyPost_ret (results_none rfl _ _ _) rfl ?_;exact⟨⟨_,rfl⟩,.inr ⟨f++[c],⟨_,_,B.o⟩,a6.o⟩⟩
     obtain⟨p,x1,x2⟩:=wQ c3 c4 c0 a0.o D1.o D2.o T3.o T4.o B.o L;have A:=E p;have a1:=E F;have N:jh W4 n+jh W4 o=(cf g c).length+(cf d c).length:=by simp[jh,x1,x2]
     have a5:=E N;clear p F L N hy hR x1 x2 e1 D f1 f2;gi_wp2;exact⟨⟨f++[c],a1.o,A.o⟩,by rw[a4.o,a5.o];exact a3.o⟩
   ·subst b9;gi_wp2_with (refine⟨trivial,?_⟩;gi_at_call 168;go_must(refine(callsIn_wide.2 u.o).mono ?_;rintro e s ⟨rfl,k1⟩;have S:=(k1.block n (lg H1.o) id).trans H1.o;have T:=(k1.block o (lg H2.o) id).trans H2.o;have e1:=ae S 0;have D:=ae T 0;have f1:=aj S 0;have f2:=aj T 0;simp at e1 D;have D1:=E S;have D2:=E T;have K1:=E k1;clear S T k1 c1 c2))
    obtain⟨b2,i⟩:∃v,v=gw (J oa 0 ca) (mV g c):=⟨_,rfl⟩
    obtain⟨b3,j⟩:∃v,v=gw (J ob d.length cb) (mV d c):=⟨_,rfl⟩
    have r:∀k∈G,s.heap[k]?=wr.heap[k]?:=λk m=>K1.o.block k (P.o k m) id;have S3:=E (H3.o.ai r);have S4:=E (H4.o.ai r);have y:QS (∀W,(∀k∈G,W.heap[k]?=s.heap[k]?)->ba prog 169 #[J oa 0 ca,O c] W λe w'=>e=ay b2/\w'=W):=λW m=>by have:=nM _ c g W (S3.o.ai m);rwa[<-i]at this
    have z:QS (∀W,(∀k∈G,W.heap[k]?=s.heap[k]?)->ba prog 169 #[J ob d.length cb,O c] W λe w'=>e=ay b3/\w'=W):=λW m=>by have:=nM _ c d W (S4.o.ai m);rwa[<-j]at this
    have T3:=E (S3.o.behind c);have T4:=E (S4.o.behind c);rw[<-i]at T3;rw[<-j]at T4;clear i j r;obtain⟨b0,a7,rfl⟩:=T3.o.form;obtain⟨b1,a8,rfl⟩:=T4.o.form;have a2:QS (aa (λk=>k=n\/k=o) wr (((s.setCell ⟨n,0,Y⟩ (J b0 (cf g c).length a7)).setCell ⟨o,0,Y⟩ (J b1 (cf d c).length a8)).drew)):=(((K1.o.mono (λ_ _ h=>h.elim)).trans (aa.setCell _ _ _) (λk _ e=>.inl e)).trans (aa.setCell _ _ _) (λk _ e=>.inr e)).dr;have C:=E (HY.o f c _ (Q.o f wr _ a2.o HJ.o) b4.o);have a0:QS (∀k∈G,k<s.heap.size):=λk m=>kz (P.o k m) K1.o.size;have M:jh wr n+jh wr o=g.length+d.length:=by rw[b5.o];simp[jh,ae H1.o 0,ae H2.o 0]
    have a4:=E M;clear M;gi_region_with (first
     |(refine⟨trivial,?_⟩;gi_at_call_has 169 (J oa 0 ca);go_must(refine(callsIn_wide.2 (y.o s.drew (λ_ _=>rfl))).mono ?_;rintro e wz ⟨rfl,rfl⟩))
     |(refine⟨trivial,?_⟩;gi_at_call_has 169 (J ob d.length cb);go_must(refine(callsIn_wide.2 (z.o s.drew (λ_ _=>rfl))).mono ?_;rintro e wz ⟨rfl,rfl⟩)))
    all_goals
     obtain⟨fn,c5,R,b6,hy,hR⟩:=C.o;clear C HY Q y z u;gi_wp2;refine hR.mono ?_;rintro e W4 (⟨rfl,F,L⟩|⟨rfl,H⟩);rotate_left
     ·have a6:=E H;clear H hy hR e1 D f1 f2;gi_wp2;refine bodyPost_ret (results_none rfl _ _ _) rfl ?_;exact⟨⟨_,rfl⟩,.inr ⟨f++[c],⟨_,_,B.o⟩,a6.o⟩⟩
     obtain⟨p,x1,x2⟩:=wQ c3 c4 c0 a0.o D1.o D2.o T3.o T4.o B.o L;have A:=E p;have a1:=E F;have N:jh W4 n+jh W4 o=(cf g c).length+(cf d c).length:=by simp[jh,x1,x2]
     have a5:=E N;clear p F L N hy hR x1 x2 e1 D f1 f2;gi_wp2;exact⟨⟨f++[c],a1.o,A.o⟩,by rw[a4.o,a5.o];exact a3.o⟩
end Go.Proofs.YtjbkfdeldlajhaaGreatDoor
