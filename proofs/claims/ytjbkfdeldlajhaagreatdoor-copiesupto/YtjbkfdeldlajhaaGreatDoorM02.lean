import Derived.Test.YtjbkfdeldlajhaaGreatDoorM01
import Derived.Deep.RegionHeld3
import Derived.Laws.BitsLemmas
set_option linter.unusedSimpArgs false
namespace Go.Proofs.YtjbkfdeldlajhaaGreatDoor
set_option maxRecDepth 100000
set_option maxHeartbeats 1000000
open Go.RowKit Go.Proofs.Tryz
open Option renaming none->Y,some->V
open Go.Value renaming int->Z,string->O,slice->J,pointer->X,bool->ao,tuple->bt
open Go.IntKind renaming i64->U
open Go.Obj renaming cells->I
open Go renaming World->ab,Value->ax,Calls->ba
open Go.Ending renaming returned->ay
variable{R:aF}{w r:ab}{n:Int}{C:List Nat}{b c k i q a y:Nat}
theorem aq.nums{c:ab}{S:Nat->Prop}(h:aq w R)(e:aa S w c)(d:∀k,k∈R.aP++R.bp->¬S k)(now aK aJ:Int)(g:c.heap[R.sb]?=V (I (bo {R with now,aK,aJ}) 61 (0,0))):aq c {R with now,aK,aJ}:=by have b:=h.af.ai e (λk a=>d k (fQ _ a));have f:=h.cg.ai e (λk a=>d k (fx _ a));exact⟨g,⟨b.cy,b.eA,b.dc,b.cU⟩,f,h.nodup⟩
theorem aq.set{R':aF}(h:aq w R)(a:R'.sb=R.sb){v:ax}(b:(bo R).setIfInBounds i v=bo R'):(w.setCell ⟨R.sb,i,Y⟩ v).heap[R'.sb]?=V (I (bo R') 61 (0,0)):=by rw[a,ak h.top,b]
theorem bG(h:aq w R):∀k∈R.fp,k<w.heap.size:=by
 intro k c;simp only[aF.fp,aF.aP,aF.bp,cT,cQ,ns,Rx]at c;rcases c with rfl|((a|a)|⟨p,b,a⟩)|((a|a)|⟨p,b,a⟩)
 ·exact h.lt
 ·exact h.af.cy.lt a
 ·simp only[cL,cQ,Rx]at a;exact a.elim (λa=>h.af.dc.lt a) (λa=>h.af.cU.lt a)
 ·obtain⟨d,e⟩:=h.af.eA p b;simp only[RQ,TP]at a;rcases a with rfl|rfl
  ·exact (lg d)
  ·exact e.lt
 ·exact h.cg.cW.lt a
 ·exact h.cg.ed.lt a
 ·exact(h.cg.fA p b).lt a
theorem Et(R:aF)(w:ab)(h:aq w R)(g:R.af.length=8):ba prog 18 #[X (V ⟨R.sb,0,Y⟩)] w λe o=>e=ay (bt #[Z U 0,Z U 3])/\aa n_ w o:=by
 obtain⟨-,-,-,q,-,-,-,-,-⟩:=h.seven;have k:=h.lt;have n:dG (Z U) w R.wm (R.af.map λp=>(p.1,bE p.2)):=h.af.cy;have m:=mf_;have i:QS ((R.af.map λp=>(p.1,bE p.2)).length=8):=by unfold QS;simp[g]
 clear g h;generalize R.sb=r at*;generalize R.af.map (λp=>(p.1,bE p.2))=l at*;go_enter_defers func18,ntmps18;go_wp2_with(at_len;go_must(refine pY _ rfl _ 54 rfl 3 123 Tryz.underlying54 R.wm rfl l ((n.ai (aa.alloc n_ _ _) k_).ai (aa.alloc n_ _ _) k_) ?_;rw[i.o]))
 refine leaves_cons (f:=57) (args:=#[X (V ⟨w.heap.size+1,0,Y⟩),X (V ⟨w.heap.size,0,Y⟩)]) (by simp) (by simp[go_sem]) ?_;refine(BG (w.heap.size+1) w.heap.size 3 (by omega) _ ?_ ?_).mono ?_
 ·simp[go_sem]
 ·simp[go_sem]
 rintro e s b ⟨rfl,rfl,d⟩;have j:b.cell? ⟨w.heap.size,0,Y⟩=V (Z U 3):=d.cell (p:=⟨w.heap.size,0,Y⟩) (by simp[go_sem]) id;simp[Leaves,settle,results,Tryz.results18,go_sem,j];exact(((aa.refl _ w).al _).al _).tr d i_
theorem fU(w:ab)(o:Obj):iP ((w.alloc o).alloc (I #[J Y 0 0] 114)) (w.heap.size+1) [] [w.heap.size+1]:=by refine⟨J Y 0 0,?_,Row.nil _ _ _,by simp[Value.ownBlock],rfl⟩;have:=az (w.alloc o) (I #[J Y 0 0] 114);simpa using this
theorem EV(b:Nat)(w:ab):(binOp BinOp.eql 54 (.map (V b)) (.map Y)).run prog w=.ok (ao false) w:=by kernel_rfl
theorem EU(w:ab):(binOp BinOp.eql 54 (.map Y) (.map Y)).run prog w=.ok (ao true) w:=by kernel_rfl
theorem ql{P:Program}{c:Code}{K:Act->ab->Prop}{Q:Exit->Act->ab->Prop}{a:Act}(h:c.wp P (Exit.then K (λ_ _ _=>False)) a w):c.wp P (Exit.then K Q) a w:=
 wp_mono h (λe _ _ b=>by cases e<;>first|exact b|exact b.elim)
theorem aq.BI{b:ab}(h:aq w R)(f:aa (λk=>k∈C\/k=R.sb) w b)(c:∀k∈C,k∉R.fp)(d:b.heap[R.sb]?=(w.setCell ⟨R.sb,2,Y⟩ (Z U n)).heap[R.sb]?):aq b {R with aJ:=n}:=by
 refine h.nums f (λk a=>?_) R.now R.aK n ?_
 ·rintro(e|rfl)
  ·exact c k e (ef _ a)
  ·have:=h.nodup;simp only[aF.fp,ey]at this;exact this.1 a
 ·rw[d];exact h.set (R':={R with aJ:=n}) (i:=2) (v:=Z U n) rfl (by simp[bo])
def mD(R:aF)(w a:ab):Prop:=
 ∃b m wm,aq a {R with aJ:=R.aJ+1,wm,af:=R.af++[(R.aJ+1,⟨b,m,R.now,[]⟩)]}/\aa (·∈R.fp) w a/\(wm=R.wm\/∃q,wm=V q/\w.heap.size<=q)/\w.heap.size<=b/\w.heap.size<=m
theorem aq.vh{a:ab}{b0:Nat}{now:Int}(h:aq a R)(q:R.wm=V b0)(u:∀k∈C,k∉R.fp/\k≠a.heap.size/\k≠a.heap.size+1)(H:aD R.af n=Y)(x:aa (λk=>k∈C\/k=b0) ((a.alloc (.map #[] 0)).alloc (I #[Z U now,.map (V a.heap.size)] 126)).drew r)(G:aQ (Z U) r b0 (put (R.af.map λp=>(p.1,bE p.2)) n (X (V ⟨a.heap.size+1,0,Y⟩)))):aq r {R with af:=R.af++[(n,⟨a.heap.size+1,a.heap.size,now,[]⟩)]}/\aa (λk=>k∈C\/k=b0) a r:=by
 have c:aa (λk=>k∈C\/k=b0) a r:=((((aa.refl _ a).al _).al _).dr).tr x i_;have g:=h.nodup;have m:=bG h;have w:b0∈R.fp:=by simp[aF.fp,aF.aP,q]
 have A:b0<a.heap.size:=m _ w;have i:R.aP=b0::(cL R.pm R.cm++R.af.flatMap (λp=>[p.2.eT,p.2.mb])):=by simp[aF.aP,q]
 have f:∀k,k∈R.sb::((cL R.pm R.cm++R.af.flatMap (λp=>[p.2.eT,p.2.mb]))++R.bp)->¬(k∈C\/k=b0):=by
  intro k d;rintro(l|rfl)
  ·refine(u k l).1 ?_;simp only[aF.fp,i,cT,cQ]at d⊢;rcases d with h|h|h
   ·exact .inl h
   ·exact .inr (.inl (.inr h))
   ·exact .inr (.inr h)
  ·simp only[aF.fp,i,tI,ey,cT,cQ,Th]at g;simp only[cT,cQ]at d;rcases d with h|h|h
   ·exact g.1.1 h.symm
   ·rcases h with h|h
    ·exact g.2.1.1.1 h
    ·exact g.2.1.1.2 h
   ·exact g.2.1.2 h
 refine⟨⟨?_,⟨?_,?_,?_,?_⟩,?_,?_⟩,c⟩
 ·exact(c.block R.sb h.lt (f _ (by simp))).trans h.top
 ·have e:(R.af++[(n,(⟨a.heap.size+1,a.heap.size,now,[]⟩:mO))]).map (λp=>(p.1,bE p.2))=put (R.af.map λp=>(p.1,bE p.2)) n (X (V ⟨a.heap.size+1,0,Y⟩)):=by rw[kj (by rw[cd,H];rfl)];simp[bE]
  show dG _ _ R.wm _;rw[e,q];exact G
 ·intro p j;rcases cQ.1 j with j|j
  ·obtain⟨s,D⟩:=h.af.eA p j;have y:p.2.eT∈R.af.flatMap (λp=>[p.2.eT,p.2.mb]):=ns.2 ⟨p,j,by simp⟩;have z:p.2.mb∈R.af.flatMap (λp=>[p.2.eT,p.2.mb]):=ns.2 ⟨p,j,by simp⟩;exact⟨(c.block _ (lg s) (f _ (by simp[y]))).trans s,D.ai c (f _ (by simp[z]))⟩
  ·simp only[QZ]at j;subst j;have F:(((a.alloc (.map #[] 0)).alloc (I #[Z U now,.map (V a.heap.size)] 126)).drew).heap[a.heap.size+1]?=V (I #[Z U now,.map (V a.heap.size)] 126 (0,0)):=by have:=az (a.alloc (.map #[] 0)) (I #[Z U now,.map (V a.heap.size)] 126);simpa[World.drew]using this
   refine⟨?_,?_⟩
   ·rw[x.block (a.heap.size+1) (by simp) ?_]
    ·exact F
    ·rintro(l|l)
     ·exact(u _ l).2.2 rfl
     ·omega
   ·have B:aQ O (a.alloc (.map #[] 0)) a.heap.size []:=aQ.made _ _;have s:aQ O (((a.alloc (.map #[] 0)).alloc (I #[Z U now,.map (V a.heap.size)] 126)).drew) a.heap.size []:=B.ai (((aa.refl n_ _).al _).dr) id;refine s.ai x ?_;rintro(l|l)
    ·exact(u _ l).2.1 rfl
    ·omega
 ·exact h.af.dc.ai c (λb v=>f _ (by simp[cL,v]))
 ·exact h.af.cU.ai c (λb v=>f _ (by simp[cL,v]))
 ·exact h.cg.ai c (λk d=>f _ (ef _ (fx _ d)))
 ·have e:aF.fp {R with af:=R.af++[(n,⟨a.heap.size+1,a.heap.size,now,[]⟩)]}=R.sb::((R.wm.toList++cL R.pm R.cm++(R.af.flatMap (λp=>[p.2.eT,p.2.mb])++[a.heap.size+1,a.heap.size]))++R.bp):=by simp[aF.fp,aF.aP,aF.bp]
  rw[e];have o:(R.sb::((R.wm.toList++cL R.pm R.cm++(R.af.flatMap (λp=>[p.2.eT,p.2.mb])++[a.heap.size+1,a.heap.size]))++R.bp)).Perm ([a.heap.size+1,a.heap.size]++R.fp):=by simp only[aF.fp,aF.aP];refine List.Perm.trans ?_ (Sf.symm);refine List.Perm.cons _ ?_;rw[<-mE,mE _ _ R.bp];refine List.Perm.trans (RK _ _ _) ?_;simp[mE]
  rw[o.nodup_iff];simp only[tI,uE,ey,cT,Th];exact⟨⟨by omega,λt=>by have:=m _ t;omega⟩,λt=>by have:=m _ t;omega,g⟩
theorem pM{c a:Int}{m:Nat}(d:k∈aF.fp {R with aJ:=c,af:=R.af++[(n,⟨b,m,a,[]⟩)]}):k∈R.fp\/k=b\/k=m:=by
 have e:aF.fp {R with aJ:=c,af:=R.af++[(n,⟨b,m,a,[]⟩)]}=R.sb::((R.wm.toList++cL R.pm R.cm++(R.af.flatMap (λp=>[p.2.eT,p.2.mb])++[b,m]))++R.bp):=by simp[aF.fp,aF.aP,aF.bp]
 rw[e]at d;simp only[cT,cQ,RQ,TP]at d;simp only[aF.fp,aF.aP,cT,cQ];rcases d with h|((h|h)|(h|h|h))|h
 ·exact .inl (.inl h)
 ·exact .inl (.inr (.inl (.inl (.inl h))))
 ·exact .inl (.inr (.inl (.inl (.inr h))))
 ·exact .inl (.inr (.inl (.inr h)))
 ·exact .inr (.inl h)
 ·exact .inr (.inr h)
 ·exact .inl (.inr (.inr h))
theorem Ev(R:aF)(w:ab)(h:aq w R)(j:Nat)(r:R.wm=V j)(hl:R.af.length<8)(u:0<=R.aJ)(b2:R.aJ<1152921504606846976)(hn:aD R.af (R.aJ+1)=Y):ba prog 18 #[X (V ⟨R.sb,0,Y⟩)] w λe w'=>e=ay (bt #[Z U (R.aJ+1),Z U 0])/\mD R w w':=by
 obtain⟨h0,-,h2,h3,-,-,-,-,-⟩:=h.seven;have b5:=h.lt;have hw:aQ (Z U) w j (R.af.map λp=>(p.1,bE p.2)):=by have:=h.af.cy;rw[r]at this;exact this
 have b6:=mf_;have b7:=@run_makeMap prog;have b3:=EV;rw[r]at h3;have HL:QS ((R.af.map λp=>(p.1,bE p.2)).length<8):=by unfold QS;simpa using hl
 have HN:QS (aD (R.af.map λp=>(p.1,bE p.2)) (R.aJ+1)=Y):=by unfold QS;rw[cd,hn];rfl
 have b:QS (aq w R):=h;have g:QS (R.wm=V j):=r;have a0:QS (R.sb≠j):=by have:=h.nodup;simp only[aF.fp,aF.aP,r,RM,ey]at this;intro e;exact this.1 (by simp[e])
 have a1:QS (IntKind.i64.wrap (R.aJ+1)=R.aJ+1):=IntWalk.i64_in _ ⟨by omega,by omega⟩;clear hl h hn r;obtain⟨M,A⟩:∃M:Nat,(R.af.map λp=>(p.1,bE p.2)).length=M:=⟨_,rfl⟩
 have a8:M<8:=by rw[<-A];exact HL.o
 have T:QS ((R.af.map λp=>(p.1,bE p.2)).length=M):=A;clear A;go_enter_defers func18,ntmps18;go_wp2_with(at_len;go_must(refine jW _ rfl _ 54 rfl 3 123 Tryz.underlying54 j rfl _ ((hw.ai (aa.alloc n_ _ _) id).ai (aa.alloc n_ _ _) id) ?_;rw[T.o]))
 refine ql ?_;go_region_with(go_at_call 60;go_must(refine(iU (w.heap.size+1) [] [w.heap.size+1] R.sb 2 R.aJ (IntKind.i64.wrap (R.aJ+1)) _ ((fU w _).ai (aa.drew n_ _) k_) ((b.o.ai (((aa.refl n_ w).al _).al _).dr k_).cell 2) ((b.o.ai (((aa.refl n_ w).al _).al _).dr k_).frozen 2) (by simp;omega) (by simp)).mono ?_;rintro e a ⟨rfl,a4,B,a5,z,c,G,u⟩;rw[a1.o]at u;have N:QS (a.heap[R.sb]?=_):=u;clear u))
 have d:QS (aq a {R with aJ:=R.aJ+1}):=aq.BI (b.o.ai (((aa.refl n_ w).al _).al _).dr k_) c (λk m K=>by have:=bG b.o k K;simp at m;omega) N.o;have g0:a.cell? ⟨R.sb,0,Y⟩=V (Z U R.now):=d.o.cell 0;have g2:a.cell? ⟨R.sb,2,Y⟩=V (Z U (R.aJ+1)):=d.o.cell 2;have g3:a.cell? ⟨R.sb,3,Y⟩=V (.map (V j)):=(d.o.cell 3).trans (by rw[<-g.o];rfl);have gl:R.sb<a.heap.size:=d.o.lt;have gM:aQ (Z U) a j (R.af.map λp=>(p.1,bE p.2)):=by have:=d.o.af.cy;simp only[g.o]at this;exact this
 have l:QS (∀k∈B,k∉R.fp/\w.heap.size<k):=λk m=>by
  rcases G k m with F|F
  ·simp at F;exact⟨λK=>by have:=bG b.o k K;omega,by omega⟩
  ·simp at F;exact⟨λK=>by have:=bG b.o k K;omega,by omega⟩
 have P:QS (j∉B):=λv=>(l.o _ v).1 (by simp[aF.fp,aF.aP,g.o]);have y:QS (¬(R.sb∈B\/R.sb=j)):=λF=>F.elim (λv=>(l.o _ v).1 (by simp[aF.fp])) a0.o;have hE:=wk (w.heap.size+1) a4 B j (R.aJ+1) _ Y (V ⟨a.heap.size+1,0,Y⟩) ((a.alloc (.map #[] 0)).alloc (I #[Z U R.now,.map (V a.heap.size)] 126)).drew (z.ai (((aa.refl n_ a).al _).al _).dr k_) (gM.ai (((aa.refl n_ a).al _).al _).dr id) (by rw[HN.o];rfl) P.o (by rw[a5];simp);clear h0 h2 h3;go_wp2_with fail;go_region_held3(λW=>W.cell? ⟨R.sb,0,Y⟩=V (Z U R.now)/\W.cell? ⟨R.sb,2,Y⟩=V (Z U (R.aJ+1))/\W.cell? ⟨R.sb,3,Y⟩=V (.map (V j))) (go_keep) (first|(go_at_call 61;refine hE.mono ?_;rintro e x ⟨rfl,a9,C2,b4,b1,o,a7,L⟩;have q0:=o.cell (p:=⟨R.sb,0,Y⟩) ((((aa.refl n_ a).al _).al _).dr.cell g0 id) y.o;have q2:=o.cell (p:=⟨R.sb,2,Y⟩) ((((aa.refl n_ a).al _).al _).dr.cell g2 id) y.o;have q3:=o.cell (p:=⟨R.sb,3,Y⟩) ((((aa.refl n_ a).al _).al _).dr.cell g3 id) y.o));have S:QS (aa (λk=>k∈B\/k=j) ((a.alloc (.map #[] 0)).alloc (I #[Z U R.now,.map (V a.heap.size)] 126)).drew x):=o;obtain⟨x1,x2⟩:=d.o.vh (C:=B) (n:=R.aJ+1) (now:=R.now) g.o (λk m=>⟨(l.o k m).1,by have:=z.lt k m;omega,by have:=z.lt k m;omega⟩) (by have:=HN.o;rw[cd]at this;simpa using this) S.o L;have t:x.heap[w.heap.size]?=V (I #[Z U 0] 71 (0,0)):=by rw[x2.block w.heap.size (by have:=c.size;simp at this;omega) (by rintro(v|v);exact absurd (l.o _ v).2 (by omega);exact absurd (bG b.o j (by simp[aF.fp,aF.aP,g.o])) (by omega))];rw[c.block w.heap.size (by simp;omega) (by rintro(v|v);simp at v;omega)];have:=az w (I #[Z U 0] 71);exact(Below.heap_alloc _ _ _ (by simp)).trans this
 have y0:x.cell? ⟨w.heap.size,0,Y⟩=V (Z U 0):=ae t 0;have y1:x.frozen? ⟨w.heap.size,0,Y⟩=false:=aj t 0;have Q:QS (x.heap[w.heap.size]?=V (I #[Z U 0] 71 (0,0))):=t;have a2:QS (aq x _):=x1;have a3:QS (aa _ a x):=x2;clear t x1 x2 hE L o g0 g2 g3 gM hw;go_wp2;refine leaves_cons (f:=57) (args:=#[X (V ⟨w.heap.size+1,0,Y⟩),X (V ⟨w.heap.size,0,Y⟩)]) (by simp) (by simp[go_sem]) ?_;have H:=ak (i:=0) Q.o (Z U 0);refine(yQ (w.heap.size+1) w.heap.size _ ?_).mono ?_
 ·exact ae H 0
 rintro e u' b8 ⟨rfl,rfl,rfl⟩;have q:mD R w (x.setCell ⟨w.heap.size,0,Y⟩ (Z U 0)):=by
  refine⟨a.heap.size+1,a.heap.size,R.wm,?_,?_,.inl rfl,?_,?_⟩
  ·refine a2.o.ai (aa.setCell _ _ _) (λk m e=>?_);have e':k=w.heap.size:=e;have a6:k∈R.fp\/k=a.heap.size+1\/k=a.heap.size:=pM m;have s:=c.size;simp at s;rcases a6 with h|h|h
   ·have:=bG b.o k h;omega
   ·omega
   ·omega
  ·have h1:aa (·∈R.fp) w a:=((((aa.refl (·∈R.fp) w).al _).al _).dr).trans c (λk m h=>by
    rcases h with h|rfl
    ·simp at h;omega
    ·simp[aF.fp])
   refine(h1.trans a3.o (λk m h=>?_)).st (.inl (eb _)) _;rcases h with h|rfl
   ·exact absurd (l.o k h).2 (by omega)
   ·simp[aF.fp,aF.aP,g.o]
  ·have s:=c.size;simp at s;omega
  ·have s:=c.size;simp at s;omega
 have hb:=ae H 0;generalize x.setCell ⟨w.heap.size,0,Y⟩ (Z U 0)=W3 at q hb;simp at hb;simp[Leaves,settle,results,Tryz.results18,go_sem,hb,q]
theorem tC(b:R.wm=Y)(a:k∈aF.fp {R with wm:=V q}):k∈R.fp\/k=q:=by
 have e:aF.fp {R with wm:=V q}=R.sb::(q::(R.aP++R.bp)):=by simp[aF.fp,aF.aP,aF.bp,b]
 rw[e]at a;simp only[cT]at a;simp only[aF.fp,cT];rcases a with h|h|h
 ·exact .inl (.inl h)
 ·exact .inr h
 ·exact .inl (.inr h)
theorem aq.Py(h:aq w R)(o:R.wm=Y)(j:R.af=[])(l:aa (λk=>k∈C\/k=R.sb) w r)(t:∀k∈C,k∉R.fp)(u:aQ (Z U) w q [])(n:q∉C)(d:q∉R.fp)(g:r.heap[R.sb]?=(w.setCell ⟨R.sb,3,Y⟩ (.map (V q))).heap[R.sb]?):aq r {R with wm:=V q}:=by
 have a:=h.nodup;have f:∀k,k∈R.aP++R.bp->¬(k∈C\/k=R.sb):=by
  intro k c;rintro(m|rfl)
  ·exact t k m (ef _ c)
  ·simp only[aF.fp,ey]at a;exact a.1 c
 refine⟨?_,⟨?_,?_,?_,?_⟩,?_,?_⟩
 ·rw[g];exact h.set (R':={R with wm:=V q}) (i:=3) (v:=.map (V q)) rfl (by simp[bo])
 ·show aQ _ _ _ _;rw[j];refine u.ai l ?_;rintro(m|rfl)
  ·exact n m
  ·exact d (by simp[aF.fp])
 ·intro p s;rw[j]at s;cases s
 ·exact h.af.dc.ai l (λb g=>f b (by simp[aF.aP,cL,g]))
 ·exact h.af.cU.ai l (λb g=>f b (by simp[aF.aP,cL,g]))
 ·exact h.cg.ai l (λk c=>f k (fx _ c))
 ·have e:aF.fp {R with wm:=V q}=R.sb::(q::(R.aP++R.bp)):=by simp[aF.fp,aF.aP,aF.bp,o]
  rw[e];simp only[aF.fp,ey,cT,Th]at a d⊢;exact⟨⟨λe=>d.1 e.symm,a.1⟩,d.2,a.2⟩
theorem Eu(R:aF)(w:ab)(h:aq w R)(z:R.wm=Y)(v:0<=R.aJ)(c7:R.aJ<1152921504606846976):ba prog 18 #[X (V ⟨R.sb,0,Y⟩)] w λe w'=>e=ay (bt #[Z U (R.aJ+1),Z U 0])/\mD R w w':=by
 obtain⟨h0,-,h2,h3,-,-,-,-,-⟩:=h.seven;have d0:=h.lt;have hw:dG (Z U) w Y []:=rfl;have b1:R.af=[]:=by have:=h.af.cy;rw[z]at this;exact Sl.1 this
 have d1:=mf_;have d2:=@run_makeMap prog;have c8:=EU;rw[z]at h3;have b:QS (aq w R):=h;have c:QS (R.wm=Y):=z;have D:QS (R.af=[]):=b1;have b7:QS (IntKind.i64.wrap (R.aJ+1)=R.aJ+1):=IntWalk.i64_in _ ⟨by omega,by omega⟩;clear h z b1;go_enter_defers func18,ntmps18;go_wp2_with(first
  |(at_len;go_must(refine pY _ rfl _ 54 rfl 3 123 Tryz.underlying54 Y rfl [] ((hw.ai (aa.alloc n_ _ _) k_).ai (aa.alloc n_ _ _) k_) ?_;simp only[pa]))
  |(go_at_call 59;go_must(refine(Eo (w.heap.size+1) [] [w.heap.size+1] R.sb 3 Y (V (w.heap.size+1+1)) _ ((fU w _).ai (aa.alloc n_ _ _) k_) (((b.o.ai (((aa.refl n_ w).al _).al _) k_).ai (aa.alloc n_ _ _) k_).cell 3|>.trans (by rw[<-c.o];rfl)) ((b.o.ai ((((aa.refl n_ w).al _).al _).al _) k_).frozen 3) (by simp;omega) (by simp)).mono ?_;rintro e G ⟨rfl,c0,C0,a6,P,x,Q,a5⟩;have b2:QS (G.heap[R.sb]?=_):=a5;clear a5)))
 have m:QS (∀k∈C0,k∉R.fp/\w.heap.size<k/\k≠w.heap.size+1+1/\k<G.heap.size):=λk d=>by
  have a7:=P.lt k d;rcases Q k d with t|t
  ·simp at t;exact⟨λl=>by have:=bG b.o k l;omega,by omega,by omega,a7⟩
  ·simp at t;exact⟨λl=>by have:=bG b.o k l;omega,by omega,by omega,a7⟩
 have s:QS (aq G {R with wm:=V (w.heap.size+1+1)}):=by refine aq.Py (b.o.ai ((((aa.refl n_ w).al _).al _).al _) k_) c.o D.o x (λk d l=>by have:=bG b.o k l;simp at d;omega) ?_ (by simp) (λl=>by have:=bG b.o _ l;omega) b2.o;have:=aQ.made (Z U) ((w.alloc (I #[Z U 0] 71)).alloc (I #[J Y 0 0] 114));simpa using this
 have d3:w.heap.size+3<=G.heap.size:=by have:=x.size;simp at this;omega
 have k2:G.cell? ⟨R.sb,2,Y⟩=V (Z U R.aJ):=s.o.cell 2;have K:QS (R.sb∉C0):=λg=>(m.o _ g).1 (by simp[aF.fp]);clear hw h0 h2 h3;refine ql ?_;go_region_with(go_at_call 60;go_must(refine(iU (w.heap.size+1) c0 C0 R.sb 2 R.aJ (IntKind.i64.wrap (R.aJ+1)) _ (P.ai (aa.drew n_ _) k_) ((s.o.ai (aa.drew n_ _) k_).cell 2) ((s.o.ai (aa.drew n_ _) k_).frozen 2) K.o (by rw[a6];simp)).mono ?_;rintro e a ⟨rfl,c1,H,c2,S,y,T,v⟩;rw[b7.o]at v;have b3:QS (a.heap[R.sb]?=_):=v;clear v))
 have o:QS (∀k∈H,k∉R.fp/\w.heap.size<k/\k≠w.heap.size+1+1/\k<a.heap.size):=λk d=>by
  have a8:=S.lt k d;rcases T k d with t|t
  ·obtain⟨L,a2,M,a4⟩:=m.o k t;exact⟨L,a2,M,a8⟩
  ·simp at t;exact⟨λl=>by have:=bG b.o k l;omega,by omega,by omega,a8⟩
 have j:QS (aq a {R with aJ:=R.aJ+1,wm:=V (w.heap.size+1+1)}):=aq.BI (R:={R with wm:=V (w.heap.size+1+1)}) (s.o.ai (aa.drew n_ _) k_) y (λk d l=>by
  obtain⟨L,a2,M,a4⟩:=m.o k d;rcases tC c.o l with h|h
  ·exact L h
  ·exact M h) b3.o
 have g0:a.cell? ⟨R.sb,0,Y⟩=V (Z U R.now):=j.o.cell 0;have g2:a.cell? ⟨R.sb,2,Y⟩=V (Z U (R.aJ+1)):=j.o.cell 2;have g3:a.cell? ⟨R.sb,3,Y⟩=V (.map (V (w.heap.size+1+1))):=j.o.cell 3;have gl:R.sb<a.heap.size:=j.o.lt;have d4:w.heap.size+3<=a.heap.size:=by have:=y.size;simp at this;omega
 have gM:aQ (Z U) a (w.heap.size+1+1) (R.af.map λp=>(p.1,bE p.2)):=j.o.af.cy;have HN:QS (aD (R.af.map λp=>(p.1,bE p.2)) (R.aJ+1)=Y):=by unfold QS;rw[D.o];rfl
 have b4:QS (w.heap.size+1+1∉H):=λg=>(o.o _ g).2.2.1 rfl;have B:QS (¬(R.sb∈H\/R.sb=w.heap.size+1+1)):=λt=>t.elim (λg=>(o.o _ g).1 (by simp[aF.fp])) (λe=>by omega);have hE:=wk (w.heap.size+1) c1 H (w.heap.size+1+1) (R.aJ+1) _ Y (V ⟨a.heap.size+1,0,Y⟩) ((a.alloc (.map #[] 0)).alloc (I #[Z U R.now,.map (V a.heap.size)] 126)).drew (S.ai (((aa.refl n_ a).al _).al _).dr k_) (gM.ai (((aa.refl n_ a).al _).al _).dr id) (by rw[HN.o];rfl) b4.o (by rw[c2,a6];simp);clear k2;go_wp2_with fail;go_region_held3(λW=>W.cell? ⟨R.sb,0,Y⟩=V (Z U R.now)/\W.cell? ⟨R.sb,2,Y⟩=V (Z U (R.aJ+1))/\W.cell? ⟨R.sb,3,Y⟩=V (.map (V (w.heap.size+1+1)))) (go_keep) (first|(go_at_call 61;refine hE.mono ?_;rintro e A ⟨rfl,c5,C2,c9,c6,q,c4,a9⟩;have q0:=q.cell (p:=⟨R.sb,0,Y⟩) ((((aa.refl n_ a).al _).al _).dr.cell g0 id) B.o;have q2:=q.cell (p:=⟨R.sb,2,Y⟩) ((((aa.refl n_ a).al _).al _).dr.cell g2 id) B.o;have q3:=q.cell (p:=⟨R.sb,3,Y⟩) ((((aa.refl n_ a).al _).al _).dr.cell g3 id) B.o));have b6:QS (aa (λk=>k∈H\/k=w.heap.size+1+1) ((a.alloc (.map #[] 0)).alloc (I #[Z U R.now,.map (V a.heap.size)] 126)).drew A):=q;obtain⟨x1,x2⟩:=j.o.vh (C:=H) (b0:=w.heap.size+1+1) (n:=R.aJ+1) (now:=R.now) rfl (λk d=>by
  obtain⟨L,a2,M,a4⟩:=o.o k d;exact⟨λl=>by
   rcases tC (R:={R with aJ:=R.aJ+1}) c.o l with h|h
   ·exact L h
   ·exact M h,by omega,by omega⟩) (by show aD R.af _=Y;rw[D.o];rfl) b6.o a9
 have u:A.heap[w.heap.size]?=V (I #[Z U 0] 71 (0,0)):=by rw[x2.block w.heap.size (by omega) (by rintro(g|g);exact absurd (o.o _ g).2.1 (by omega);omega)];rw[y.block w.heap.size (by simp;omega) (by rintro(g|g);exact absurd (m.o _ g).2.1 (by omega);omega)];show G.heap[w.heap.size]?=_;rw[x.block w.heap.size (by simp;omega) (by rintro(g|g);simp at g;omega)];have:=az w (I #[Z U 0] 71);exact(Below.heap_alloc _ _ _ (by simp;omega)).trans ((Below.heap_alloc _ _ _ (by simp)).trans this)
 have y0:A.cell? ⟨w.heap.size,0,Y⟩=V (Z U 0):=ae u 0;have y1:A.frozen? ⟨w.heap.size,0,Y⟩=false:=aj u 0;have b5:QS (A.heap[w.heap.size]?=V (I #[Z U 0] 71 (0,0))):=u;have b8:QS (aq A _):=x1;have b9:QS (aa _ a A):=x2;clear u x1 x2 hE a9 q g0 g2 g3 gM;go_wp2;refine leaves_cons (f:=57) (args:=#[X (V ⟨w.heap.size+1,0,Y⟩),X (V ⟨w.heap.size,0,Y⟩)]) (by simp) (by simp[go_sem]) ?_;have a0:=ak (i:=0) b5.o (Z U 0);refine(yQ (w.heap.size+1) w.heap.size _ ?_).mono ?_
 ·exact ae a0 0
 rintro e u' d5 ⟨rfl,rfl,rfl⟩;have r:mD R w (A.setCell ⟨w.heap.size,0,Y⟩ (Z U 0)):=by
  refine⟨a.heap.size+1,a.heap.size,V (w.heap.size+1+1),?_,?_,.inr ⟨_,rfl,by omega⟩,by omega,by omega⟩
  ·refine b8.o.ai (aa.setCell _ _ _) (λk d e=>?_);have e':k=w.heap.size:=e;have c3:=pM (R:={R with wm:=V (w.heap.size+1+1)}) d;rcases c3 with h|h|h
   ·rcases tC c.o h with h|h
    ·have:=bG b.o k h;omega
    ·omega
   ·omega
   ·omega
  ·have h0:aa (·∈R.fp) w G:=((((aa.refl (·∈R.fp) w).al _).al _).al _).trans x (λk d h=>by
    rcases h with h|rfl
    ·simp at h;omega
    ·simp[aF.fp])
   have h1:aa (·∈R.fp) w a:=(h0.dr).trans y (λk d h=>by
    rcases h with h|rfl
    ·exact absurd (m.o k h).2.1 (by omega)
    ·simp[aF.fp])
   refine(h1.trans b9.o (λk d h=>?_)).st (.inl (eb _)) _;rcases h with h|rfl
   ·exact absurd (o.o k h).2.1 (by omega)
   ·omega
 have hb:=ae a0 0;generalize A.setCell ⟨w.heap.size,0,Y⟩ (Z U 0)=W3 at r hb;simp at hb;simp[Leaves,settle,results,Tryz.results18,go_sem,hb,r]
structure Good(R:aF):Prop where
 now:0<=R.now/\R.now<=1000000000
 aJ:0<=R.aJ/\R.aJ<=1000000000000000
 dm:R.af.length<=8
 numbers:∀p∈R.af,1<=p.1/\p.1<=R.aJ
 aI:∀p∈R.af,0<=p.2.aI/\p.2.aI<=R.now
 writes30:∀p∈R.af,p.2.ar.length<=30
 nF:∀p∈R.af,∀q∈p.2.ar,dw q.1=true/\fM q.2.value=true/\q.2.aG=0
 rising:∀p∈R.au,dP p.2.aE
 fH:∀p∈R.au,∀v∈p.2.aE,0<=v.aG/\v.aG<=R.now
 filled:∀p∈R.au,p.2.aE≠[]
 hkeys:∀p∈R.au,dw p.1=true
 wy:∀p∈R.au,∀v∈p.2.aE,fM v.value=true
 sorted:R.keys.Pairwise (λa b=>a.data.toList<b.data.toList)
 keys:∀k,k∈R.keys↔∃x,aD R.au k=V x
theorem jT:∀(b:List bF) (c a:Int),dP b->(∀v∈b,c<=v.aG/\v.aG<=a)->(b.length:Int)<=max 0 (a-c+1)
 |[],c,a,_,_=>by simp;omega
 |v::b,c,a,hr,hb=>by have g:=hb v (by simp);obtain⟨e,f⟩:=BS.1 hr;have ih:=jT b (v.aG+1) a f (λu d=>⟨by have:=e u d;omega,(hb u (by simp[d])).2⟩);simp only[fN];omega
theorem Good.aE(h:Good R)(a:ByteArray):dP (aw R.au a)/\(aw R.au a).length<=1000000000000:=by
 unfold aw;cases hl:aD R.au a with
 |none=>exact⟨List.Pairwise.nil,by simp⟩
 |some x=>
  have c:=bj hl;have b:=h.rising _ c;have d:=jT x.aE 0 R.now b (h.fH _ c);refine⟨b,?_⟩;have e:=h.now;simp only[uW,lp];omega
theorem Hl(R:aF)(n:Int)(x:mO)(a:ByteArray)(w:ab)(h:aq w R)(g:Good R)(j:(n,x)∈R.af):ba prog 67 #[X (V ⟨R.sb,0,Y⟩),bE x,O a] w λe k=>e=ay (bt #[O ((fT x.ar (aw R.au a) x.aI a).getD bF.zero).value,ao (gQ (fT x.ar (aw R.au a) x.aI a))])/\aa n_ w k:=by
 obtain⟨d,b,c⟩:=h.af.work j;unfold fT;cases hl:aD x.ar a with
 |some v=>
  simp only[lp,gQ];exact MT R.sb x.eT x.mb a _ v w b c (by rw[cd,hl];rfl)
 |none=>
  obtain⟨f,i⟩:=g.aE a;exact MU R.sb x.eT x.mb a _ x.aI R.vm _ _ (aw R.au a) w d b c (by rw[cd,hl];rfl) (h.cell 8) h.cg.ed rfl (h.cg.slice a) f i
def pG(R:aF)(n:Int)(a:ByteArray):ByteArray×Int:=
 match aD R.af n with
 |none=>(ByteArray.empty,1)
 |some x=>
  if dw a=true then
   if gQ (fT x.ar (aw R.au a) x.aI a)=true then(((fT x.ar (aw R.au a) x.aI a).getD bF.zero).value,0)else(ByteArray.empty,1)
  else(ByteArray.empty,2)
theorem get_none(R:aF)(n:Int)(b:ByteArray)(w:ab)(h:aq w R)(c:aD R.af n=Y):ba prog 24 #[X (V ⟨R.sb,0,Y⟩),Z U n,O b] w λe d=>e=ay (bt #[O ByteArray.empty,Z U 1])/\aa n_ w d:=by
 have a:=fv R n w h;rw[c]at a;simp only[Tj,yg]at a;clear c h;go_enter func24,ntmps24;go_wp2_with(go_at_call 65;go_must(refine a.mono ?_;rintro e f ⟨rfl,rfl⟩))
 go_ret2;exact⟨rfl,aa.refl _ _⟩
theorem get_some(R:aF)(n:Int)(x:mO)(a:ByteArray)(w:ab)(h:aq w R)(g:Good R)(j:aD R.af n=V x)(k:a.size<=maxLen):ba prog 24 #[X (V ⟨R.sb,0,Y⟩),Z U n,O a] w λe m=>e=ay (bt #[O (pG R n a).1,Z U (pG R n a).2])/\aa n_ w m:=by
 have f:=fv R n w h;have d:=Hl R n x a w h g (bj j);have i:=mW a w k;have l:∀(x:Bool) (w:ab),(Op.unary .not (ao x)).run prog w=.ok (ao (!x)) w:=λ_ _=>rfl;rw[j]at f;simp only[uW,lp,bE]at f d;unfold pG;rw[j];simp only;generalize fT x.ar (aw R.au a) x.aI a=ov at d⊢;clear j h g k;generalize R.sb=o at*;cases hkb:dw a with
 |false=>
  rw[hkb]at i;simp only[vg,RL];clear hkb;go_enter func24,ntmps24;go_wp2_with(first
   |(go_at_call 65;go_must(refine f.mono ?_;rintro e c ⟨rfl,rfl⟩))
   |(go_at_call 66;go_must(refine i.mono ?_;rintro e c ⟨rfl,rfl⟩)))
  go_ret2;exact⟨rfl,aa.refl _ _⟩
 |true=>
  rw[hkb]at i;simp only[Rz];clear hkb;cases hst:gQ ov with
  |false=>
   rw[hst]at d;simp only[vg,RL];clear hst;go_enter func24,ntmps24;go_wp2_with(first
    |(go_at_call 65;go_must(refine f.mono ?_;rintro e c ⟨rfl,rfl⟩))
    |(go_at_call 66;go_must(refine i.mono ?_;rintro e c ⟨rfl,rfl⟩))
    |(go_at_call 67;go_must(refine d.mono ?_;rintro e c ⟨rfl,b⟩)))
   go_ret2;exact⟨rfl,b⟩
  |true=>
   rw[hst]at d;simp only[Rz];clear hst;go_enter func24,ntmps24;go_wp2_with(first
    |(go_at_call 65;go_must(refine f.mono ?_;rintro e c ⟨rfl,rfl⟩))
    |(go_at_call 66;go_must(refine i.mono ?_;rintro e c ⟨rfl,rfl⟩))
    |(go_at_call 67;go_must(refine d.mono ?_;rintro e c ⟨rfl,b⟩)))
   go_ret2;exact⟨rfl,b⟩
theorem NW(R:aF)(n:Int)(a:ByteArray)(w:ab)(h:aq w R)(g:Good R)(b:a.size<=maxLen):ba prog 24 #[X (V ⟨R.sb,0,Y⟩),Z U n,O a] w λe c=>e=ay (bt #[O (pG R n a).1,Z U (pG R n a).2])/\aa n_ w c:=by
 cases hn:aD R.af n with
 |none=>
  refine(get_none R n a w h hn).mono ?_;rintro e c ⟨d,b⟩;refine⟨?_,b⟩;rw[d];unfold pG;rw[hn]
 |some x=>exact get_some R n x a w h g hn b
theorem dC{α β:Type}[DecidableEq α](l:List (α×β))(k:α):(del l k).Sublist l:=by
 induction l with
 |nil=>exact RV _
 |cons p r ih=>
  obtain⟨a,x⟩:=p;unfold del;split
  ·exact List.sublist_cons_self _ _
  ·exact List.Sublist.cons_cons _ ih
theorem iR{α β:Type}(f:α->List β){l b:List α}(h:l.Sublist b):(l.flatMap f).Sublist (b.flatMap f):=by
 induction h with
 |slnil=>exact RV _
 |cons a _ ih=>simp only[Rh];exact ih.trans (List.sublist_append_right _ _)
 |cons_cons a _ ih=>simp only[Rh];exact TC (RV _) ih
theorem pF:(aF.fp {R with af:=del R.af n}).Sublist R.fp:=by simp only[aF.fp,aF.aP,aF.bp];exact List.Sublist.cons_cons _ (TC (TC (RV _) (iR _ (dC _ _))) (RV _))
theorem aq.vo{q:ab}(h:aq w R)(j:R.wm=V i)(t:∀k∈C,k∉R.fp)(g:aa (λk=>k∈C\/k=i) w q)(v:aQ (Z U) q i (del (R.af.map λp=>(p.1,bE p.2)) n)):aq q {R with af:=del R.af n}:=by
 have d:=h.nodup;have e:R.aP=i::(cL R.pm R.cm++R.af.flatMap (λp=>[p.2.eT,p.2.mb])):=by simp[aF.aP,j]
 have c:∀k,k∈R.sb::((cL R.pm R.cm++R.af.flatMap (λp=>[p.2.eT,p.2.mb]))++R.bp)->¬(k∈C\/k=i):=by
  intro k a;rintro(u|rfl)
  ·refine t k u ?_;simp only[aF.fp,e,cT,cQ]at a⊢;rcases a with h|h|h
   ·exact .inl h
   ·exact .inr (.inl (.inr h))
   ·exact .inr (.inr h)
  ·simp only[aF.fp,e,tI,ey,cT,cQ,Th]at d;simp only[cT,cQ]at a;rcases a with h|h|h
   ·exact d.1.1 h.symm
   ·rcases h with h|h
    ·exact d.2.1.1.1 h
    ·exact d.2.1.1.2 h
   ·exact d.2.1.2 h
 refine⟨?_,⟨?_,?_,?_,?_⟩,?_,?_⟩
 ·exact(g.block R.sb h.lt (c _ (by simp))).trans h.top
 ·show dG _ _ R.wm _;rw[j];show aQ _ _ _ _;rw[<-nR];exact v
 ·intro p x;have f:p∈R.af:=(dC _ _).subset x;obtain⟨r,s⟩:=h.af.eA p f;have m:p.2.eT∈R.af.flatMap (λp=>[p.2.eT,p.2.mb]):=ns.2 ⟨p,f,by simp⟩;have o:p.2.mb∈R.af.flatMap (λp=>[p.2.eT,p.2.mb]):=ns.2 ⟨p,f,by simp⟩;exact⟨(g.block _ (lg r) (c _ (by simp[m]))).trans r,s.ai g (c _ (by simp[o]))⟩
 ·exact h.af.dc.ai g (λb l=>c _ (by simp[cL,l]))
 ·exact h.af.cU.ai g (λb l=>c _ (by simp[cL,l]))
 ·exact h.cg.ai g (λk a=>c _ (ef _ (fx _ a)))
 ·exact d.sublist pF
theorem Bl(h:aq w R){x:mO}(a:aD R.af n=V x):∃c,R.wm=V c:=by
 cases hw:R.wm with
 |some b=>exact⟨b,rfl⟩
 |none=>
  have:=h.af.cy;rw[hw]at this;have e:R.af=[]:=Sl.1 this;rw[e]at a;cases a
theorem Ee(R:aF)(n:Int)(w:ab)(h:aq w R)(i:aD R.af n=Y):ba prog 31 #[X (V ⟨R.sb,0,Y⟩),Z U n] w λe l=>e=ay (Z U 1)/\aa n_ w l:=by
 have k:=mf_;have b:=fv R n ((w.alloc (I #[Z U 0] 71)).alloc (I #[J Y 0 0] 114)) (h.ai (((aa.refl n_ w).al _).al _) k_);rw[i]at b;simp only[Tj,yg]at b;clear i h;generalize R.sb=m at*;go_enter_defers func31,ntmps31;go_wp2_with(go_at_call 65;go_must(refine b.mono ?_;rintro e q ⟨rfl,rfl⟩))
 refine leaves_cons (f:=81) (args:=#[X (V ⟨w.heap.size+1,0,Y⟩),X (V ⟨w.heap.size,0,Y⟩)]) (by simp) (by simp[go_sem]) ?_;refine(Bt (w.heap.size+1) w.heap.size 1 (by omega) _ ?_ ?_).mono ?_
 ·simp[go_sem]
 ·simp[go_sem]
 rintro e o c ⟨rfl,rfl,g⟩;have j:c.cell? ⟨w.heap.size,0,Y⟩=V (Z U 1):=g.cell (p:=⟨w.heap.size,0,Y⟩) (by simp[go_sem]) id;simp[Leaves,settle,results,Tryz.results31,go_sem,j];exact(((aa.refl _ w).al _).al _).tr g i_
theorem Ef(R:aF)(n:Int)(x:mO)(w:ab)(h:aq w R)(t:aD R.af n=V x):ba prog 31 #[X (V ⟨R.sb,0,Y⟩),Z U n] w λe H=>e=ay (Z U 0)/\aq H {R with af:=del R.af n}/\aa (·∈R.fp) w H:=by
 obtain⟨l,b⟩:=Bl h t;have Q:=mf_;have y:=h.ai (((aa.refl n_ w).al (I #[Z U 0] 71)).al (I #[J Y 0 0] 114)) k_;have r:=fv R n _ y;rw[t]at r;simp only[uW,lp,bE]at r;have F:aQ (Z U) ((w.alloc (I #[Z U 0] 71)).alloc (I #[J Y 0 0] 114)) l (R.af.map λp=>(p.1,bE p.2)):=by have:=y.af.cy;rw[b]at this;exact this
 have c3:w.cell? ⟨R.sb,3,Y⟩=V (.map (V l)):=(h.cell 3).trans (by rw[<-b];rfl);have P:=h.lt;have q:l∈R.fp:=by simp[aF.fp,aF.aP,b]
 have M:=bG h _ q;have B:=pR (w.heap.size+1) [] [w.heap.size+1] l n _ (V ⟨x.eT,0,Y⟩) _ (fU w _) F (by rw[cd,t];rfl) (by simp;omega) (by simp);have g:QS (aq w R):=h;have v:QS (R.wm=V l):=b;clear y F t h b;go_enter_defers func31,ntmps31;go_wp2_with(first
  |(go_at_call 65;go_must(refine r.mono ?_;rintro e d ⟨rfl,rfl⟩))
  |(go_at_call 76;go_must(refine B.mono ?_;rintro e d ⟨rfl,K,W,N,L,j,D,A⟩;have c:d.heap[w.heap.size]?=V (I #[Z U 0] 71 (0,0)):=((j.block w.heap.size (by simp;omega) (by rintro(G|G);(simp at G);omega)).trans (Below.heap_alloc _ _ _ (by simp))).trans (az w _);have y0:d.cell? ⟨w.heap.size,0,Y⟩=V (Z U 0):=ae c 0;have y1:d.frozen? ⟨w.heap.size,0,Y⟩=false:=aj c 0;have u:QS (d.heap[w.heap.size]?=V (I #[Z U 0] 71 (0,0))):=c;clear c)))
 refine leaves_cons (f:=81) (args:=#[X (V ⟨w.heap.size+1,0,Y⟩),X (V ⟨w.heap.size,0,Y⟩)]) (by simp) (by simp[go_sem]) ?_;have o:=ak (i:=0) u.o (Z U 0);refine(Ie (w.heap.size+1) w.heap.size _ ?_).mono ?_
 ·exact ae o 0
 rintro e u' T ⟨rfl,rfl,rfl⟩;have a:aq (d.setCell ⟨w.heap.size,0,Y⟩ (Z U 0)) {R with af:=del R.af n}/\aa (·∈R.fp) w (d.setCell ⟨w.heap.size,0,Y⟩ (Z U 0)):=by
  have S:=(g.o.ai (((aa.refl n_ w).al _).al _) k_).vo v.o (λk s r=>by have:=bG g.o k r;simp at s;omega) j A;refine⟨S.ai (aa.setCell _ _ _) (λk s e=>?_),?_⟩
  ·have e':k=w.heap.size:=e;have:=bG g.o k (pF.subset s);omega
  ·refine((((aa.refl (·∈R.fp) w).al _).al _).trans j (λk s h=>?_)).st (.inl (eb _)) _;rcases h with h|rfl
   ·simp at h;omega
   ·exact q
 have z:=ae o 0;generalize d.setCell ⟨w.heap.size,0,Y⟩ (Z U 0)=W3 at a z;simp at z;simp[Leaves,settle,results,Tryz.results31,go_sem,z];exact a
def uM:Nat->Nat->List UInt8
 |0,n=>[UInt8.ofNat n]
 |f+1,n=>if n<128 then [UInt8.ofNat n]else UInt8.ofNat (n%128+128)::uM f (n/128)
def bf(n:Nat):List UInt8:=uM n n
theorem zt:∀(f g n:Nat),n<=f->n<=g->uM f n=uM g n
 |0,0,_,_,_=>rfl
 |0,g+1,n,hf,_=>by rw[uM,uM,fy (by omega)]
 |f+1,0,n,_,hg=>by rw[uM,uM,fy (by omega)]
 |f+1,g+1,n,hf,hg=>by
  rw[uM,uM];split
  ·rfl
  ·rw[zt f g (n/128) (by omega) (by omega)]
theorem lu{n:Nat}(h:n<128):bf n=[UInt8.ofNat n]:=by
 unfold bf;cases n with
 |zero=>rfl
 |succ m=>rw[uM,fy h]
theorem qV{n:Nat}(h:¬n<128):bf n=UInt8.ofNat (n%128+128)::bf (n/128):=by
 unfold bf;cases n with
 |zero=>omega
 |succ m=>rw[uM,el h,zt m ((m+1)/128) _ (by omega) (eb _)]
def lZ:Nat->Nat->Nat->List UInt8->Option (Nat×Nat)
 |0,_,_,_=>Y
 |_+1,_,_,[]=>Y
 |f+1,i,n,d::r=>
  if d.toNat<128 then(if d.toNat=0/\0<i then Y else V (n+d.toNat*128^i,i+1))
  else lZ f (i+1) (n+(d.toNat-128)*128^i) r
def zr(l:List UInt8):Option (Nat×Nat):=lZ 5 0 0 l
theorem toNat_ofNat{n:Nat}(h:n<256):(UInt8.ofNat n).toNat=n:=by simp[Sc h]
theorem si:∀(f i n:Nat) (l:List UInt8) (x:Nat×Nat),n<128^i->lZ f i n l=V x->x.1<128^(i+f)/\i<x.2/\x.2<=i+f/\x.2-i<=l.length
 |0,_,_,_,_,_,h=>by simp[lZ]at h
 |f+1,i,n,[],_,_,h=>by simp[lZ]at h
 |f+1,i,n,d::r,x,hn,h=>by
  have j:=d.toNat_lt;have b:128^(i+1)=128*128^i:=by rw[Nat.pow_succ,TK]
  have a:128^(i+1)<=128^(i+(f+1)):=Tt (by omega) (by omega);simp only[lZ]at h;split at h
  ·rename_i c;split at h
   ·simp at h
   ·simp only[vv]at h;subst h
    have:n+d.toNat*128^i<128^(i+1):=by
     rw[b]
     have:d.toNat*128^i<=127*128^i:=xw _ (by omega)
     omega
    simp only[fN];exact⟨by omega,by omega,by omega,by omega⟩
  ·rename_i c;have g:n+(d.toNat-128)*128^i<128^(i+1):=by
    rw[b]
    have:(d.toNat-128)*128^i<=127*128^i:=xw _ (by omega)
    omega
   have:=si f (i+1) _ r x g h;have e:i+1+f=i+(f+1):=by omega
   rw[e]at this;simp only[fN];omega
theorem wS{l:List UInt8}{x:Nat×Nat}(h:zr l=V x):x.1<34359738368/\0<x.2/\x.2<=5/\x.2<=l.length:=by have:=si 5 0 0 l x (by simp) h;simpa using this
def xN:List Nat:=[0x00000000,0x1db71064,0x3b6e20c8,0x26d930ac,0x76dc4190,0x6b6b51f4,0x4db26158,0x5005713c,0xedb88320,0xf00f9344,0xd6d6a3e8,0xcb61b38c,0x9b64c2b0,0x86d3d2d4,0xa00ae278,0xbdbdf21c]
def oD(i:Nat):Nat:=xN.getD i 0
def tf(c:Nat):Nat:=(c/16)^^^oD (c%16)
def Pn(c b:Nat):Nat:=tf (tf (c^^^b))
def lP(c:Nat)(l:List UInt8):Nat:=l.foldl (λc b=>Pn c b.toNat) c
def lz(c:Nat)(l:List UInt8):Nat:=4294967295-lP (4294967295-c) l
def tR(c:Nat):List UInt8:=[UInt8.ofNat (c/16777216),UInt8.ofNat (c/65536%256),UInt8.ofNat (c/256%256),UInt8.ofNat (c%256)]
def bM(l:List UInt8):List UInt8:=tR (lz 0 l)
theorem Hq:∀i,oD i<4294967296:=by
 intro i;by_cases h:i<16
 ·have:∀j:Fin 16,oD j.val<4294967296:=by decide
  exact this ⟨i,h⟩
 ·have a:xN.length<=i:=by simp[xN];omega
  simp[oD,Sk,Sv a]
theorem xor_lt32(c:a<4294967296)(d:b<4294967296):a^^^b<4294967296:=Nat.xor_lt_two_pow (n:=32) c d
theorem AA(h:c<4294967296):tf c<4294967296:=xor_lt32 (by omega) (Hq _)
theorem NS(h:c<4294967296)(a:b<256):Pn c b<4294967296:=AA (AA (xor_lt32 h (by omega)))
theorem vf:∀(l:List UInt8) {c:Nat},c<4294967296->lP c l<4294967296
 |[],_,h=>h
 |b::r,c,h=>vf r (c:=Pn c b.toNat) (NS h (by have:=b.toNat_lt;omega))
theorem uc(c:Nat)(a b:List UInt8):lP c (a++b)=lP (lP c a) b:=by simp[lP,Ri]
theorem tG(c:Nat)(l:List UInt8):lz c l<4294967296:=by unfold lz;omega
theorem lA(a b:List UInt8):lz c (a++b)=lz (lz c a) b:=by unfold lz;rw[uc];have:=vf a (c:=4294967295-c) (by omega);congr 2;omega
theorem yl(l:List UInt8):(bM l).length=4:=rfl
def cM(w:ab):Prop:=∀i,i<16->w.cell? ⟨8,i,Y⟩=V (Z .u32 (oD i:Nat))
theorem xor_u32(e:a<4294967296)(f:b<4294967296):bits .xor .u32 (a:Int) (b:Int)=((a^^^b:Nat):Int):=by
 have g:a^^^b<2^32:=Nat.xor_lt_two_pow (by omega) (by omega);have c:(BitVec.ofInt 32 (a:Int)).toNat=a:=by rw[Tq,Tf];exact Sc (by omega)
 have d:(BitVec.ofInt 32 (b:Int)).toNat=b:=by rw[Tq,Tf];exact Sc (by omega)
 show IntKind.u32.wrap ((BitVec.ofInt 32 (a:Int)^^^BitVec.ofInt 32 (b:Int)).toNat:Int)=_;rw[BitVec.toNat_xor,c,d,IntKind.wrap_u32];omega
theorem not_u32(b:c<4294967296):bits .xor .u32 IntKind.u32.max (c:Int)=((4294967295-c:Nat):Int):=by
 have a:IntKind.u32.max=((4294967295:Nat):Int):=by simp[IntKind.max,IntKind.bits,IntKind.signed]
 rw[a,xor_u32 (by omega) b];have h:(BitVec.allOnes 32^^^BitVec.ofNat 32 c).toNat=(~~~(BitVec.ofNat 32 c)).toNat:=by rw[BitVec.allOnes_xor]
 rw[BitVec.toNat_xor,BitVec.toNat_not,BitVec.toNat_allOnes,Tf,Sc (show c<2^32 by omega)]at h;have e:4294967295^^^c=4294967295-c:=by simpa using h
 rw[e]
theorem and15_u32(c:y<4294967296):bits .and .u32 (y:Int) 15=((y%16:Nat):Int):=by have h:=bits_mask .u32 32 (by simp[IntKind.bits]) (λn a b=>by rw[IntKind.wrap_u32];omega) 4 (by omega) (y:Int) (by omega) (by omega);simpa using h
theorem crc4_u32(c:y<4294967296):bits .xor .u32 ((y:Int)/16) ((oD (y%16):Nat):Int)=((tf y:Nat):Int):=by
 have h:=xor_u32 (a:=y/16) (b:=oD (y%16)) (by omega) (Hq _);have e:((y/16:Nat):Int)=(y:Int)/16:=by omega
 rw[e]at h;rw[h];rfl
theorem yW{s:ByteArray}{z:Nat}(a:k<s.size):lP z (s.data.toList.take (k+1))=tf (tf (lP z (s.data.toList.take k)^^^s[k].toNat)):=by
 have b:k<s.data.toList.length:=by simpa using a
 rw[eu b,uc];rfl
theorem jN(c:Nat)(s:ByteArray)(w:ab)(j:c<4294967296)(u:s.size<=maxLen)(o:cM w):ba prog 181 #[Z .u32 (c:Nat),O s] w λe v=>e=ay (Z .u32 (lz c s.data.toList:Nat))/\v=w:=by
 have m:=E o;have C:=E j;have r:=not_u32 j;have n:QS (∀k,lP (4294967295-c) (s.data.toList.take k)<4294967296):=λk=>vf _ (by omega);have q:QS (∀k,¬k<s.size->4294967295-lP (4294967295-c) (s.data.toList.take k)=lz c s.data.toList):=λk d=>by rw[ep (by simp;omega)];rfl
 have p:QS (∀k,(d:k<s.size)->lP (4294967295-c) (s.data.toList.take (k+1))=tf (tf (lP (4294967295-c) (s.data.toList.take k)^^^s[k].toNat))):=λk d=>yW d;unfold maxLen at u;clear o j;go_enter func181,ntmps181;go_wp2_with fail;go_loop [0,10] (λz i=>∃k:Nat,k<=s.size/\i=Z U k/\z=Z .u32 (lP (4294967295-c) (s.data.toList.take k):Nat)) (λ_ i=>s.size-(intOf i).toNat)
 case atStart=>exact⟨0,eL _,rfl,rfl⟩
 case round=>
  obtain⟨k,d,rfl,rfl⟩:=hrel;clear r;by_cases b:k<s.size
  ·have a:=n.o k;have g:=E (p.o k b);generalize lP (4294967295-c) (s.data.toList.take k)=x at*;have t:s[k].toNat<256:=TJ _;have f:x^^^s[k].toNat<4294967296:=xor_lt32 a (by omega);have D:bits BinOp.xor IntKind.u32 (x:Int) ((s[k].toNat:Int)%4294967296)=((x^^^s[k].toNat:Nat):Int):=by
    have:((s[k].toNat:Int)%4294967296)=(s[k].toNat:Int):=by omega
    rw[this];exact xor_u32 a (by omega)
   generalize x^^^s[k].toNat=y at*;have F:=and15_u32 f;have G:=crc4_u32 f;have M:=m.o (y%16) (by omega);have l:=AA f;have A:y%16<16:=by omega
   generalize tf y=z at*;have H:=and15_u32 l;have K:=crc4_u32 l;have N:=m.o (z%16) (by omega);have B:z%16<16:=by omega
   clear a t f l;go_wp2;exact⟨⟨k+1,by omega,by go_num,by rw[g.o]⟩,by simp only[intOf];omega⟩
  ·have h:=E (q.o k b);have L:=not_u32 (n.o k);generalize lP (4294967295-c) (s.data.toList.take k)=x at*;go_wp2;go_ret;exact⟨fV (by rw[h.o]),rfl⟩
def aU(l:List UInt8):ByteArray:=⟨l.toArray⟩
theorem bn(l:List UInt8):(aU l).size=l.length:=by simp[aU,ByteArray.size]
theorem iK(l:List UInt8):(aU l).data.toList=l:=rfl
theorem pO(s:ByteArray):aU s.data.toList=s:=by cases s;simp[aU]
theorem bz(a b:List UInt8):aU a++aU b=aU (a++b):=by apply TD;simp[aU]
theorem yT(c:ab)(b:List Int)(W:ab)(f:W.heap=(c.alloc (I (b.map (Z .u8)).toArray 5)).heap):(convert 219 9 (J (V ⟨c.heap.size,0,Y⟩) b.length b.length)).run prog W=.ok (O (aU (b.map λn=>UInt8.ofNat n.toNat))) W:=by
 rw[run_convert_bytes_string W _ _ 5 _ _ _ Tryz.underlying219 Tryz.underlying5 Tryz.underlying9];have h:=run_loadCells_list (P:=prog) (w:=W) ⟨c.heap.size,0,Y⟩ (b.map (Z .u8)) (λj v i=>by
  rw[Addr.add_lit,tA];have g:W.heap[c.heap.size]?=V (I (b.map (Z .u8)).toArray 5 (0,0)):=by rw[f];exact az c _
  rw[ae g];simpa using i)
 rw[hO]at h;rw[run_bytesToString W _ _ _ b h];congr 2;have d:∀(l:List Int) (a:List UInt8),l.foldl (λr n=>r.push (UInt8.ofNat n.toNat)) (aU a)=aU (a++l.map λn=>UInt8.ofNat n.toNat):=by
  intro l;induction l with
  |nil=>intro a;simp
  |cons n l ih=>
   intro a;have e:(aU a).push (UInt8.ofNat n.toNat)=aU (a++[UInt8.ofNat n.toNat]):=by apply TD;simp[aU,ByteArray.push]
   rw[yk,e,ih];simp
 exact d b []
theorem px(c:Nat)(w:ab)(d:c<4294967296):ba prog 184 #[Z .u32 (c:Nat)] w λe j=>e=ay (O (aU (tR c)))/\aa n_ w j:=by
 have a:=yT w [(c:Int)/16777216%256,(c:Int)/65536%256,(c:Int)/256%256,(c:Int)%256];have e:([(c:Int)/16777216%256,(c:Int)/65536%256,(c:Int)/256%256,(c:Int)%256].map λn=>UInt8.ofNat n.toNat)=tR c:=by
  have f:((c:Int)/16777216%256).toNat=c/16777216:=by omega
  have g:((c:Int)/65536%256).toNat=c/65536%256:=by omega
  have h:((c:Int)/256%256).toNat=c/256%256:=by omega
  have i:((c:Int)%256).toNat=c%256:=by omega
  simp only[mU,RY,f,g,h,i];rfl
 rw[e]at a;have b:=a (w.alloc (I #[Z .u8 ((c:Int)/16777216%256),Z .u8 ((c:Int)/65536%256),Z .u8 ((c:Int)/256%256),Z .u8 ((c:Int)%256)] 5)) rfl;simp only[fN,pa,tA,Nat.reduceAdd]at b;clear a e d;generalize aU (tR c)=r at*;go_enter func184,ntmps184;go_wp2_with fail;go_ret;exact⟨rfl,(aa.refl _ _).al _⟩
theorem lT(s:ByteArray)(w:ab)(a:s.size<=maxLen)(b:cM w):ba prog 152 #[O s] w λe g=>e=ay (O (aU (bM s.data.toList)))/\aa n_ w g:=by
 have d:=E (jN 0 s w (by omega) a b);have c:=E (λW=>px (lz 0 s.data.toList) W (tG _ _));unfold bM;clear a b;go_enter func152,ntmps152;go_wp2_with(first
  |(go_at_call 181;go_must(refine(d.o).mono ?_;rintro e h ⟨rfl,rfl⟩))
  |(go_at_call 184;go_must(refine(c.o _).mono ?_;rintro e i ⟨rfl,f⟩)))
 go_ret;exact⟨rfl,f⟩
end Go.Proofs.YtjbkfdeldlajhaaGreatDoor
