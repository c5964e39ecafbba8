import Derived.Test.YtjbkfdeldlajhaaGreatDoorM06
set_option linter.unusedSimpArgs false
namespace Go.Proofs.YtjbkfdeldlajhaaGreatDoor
set_option maxRecDepth 100000
set_option maxHeartbeats 1000000
open Go.RowKit Go.Shelf Go.Proofs.Tryz
open Option renaming none->Y,some->V
open Go.Value renaming int->Z,string->O,slice->J,pointer->X,bool->ao,tuple->bt
open Go.IntKind renaming i64->U
open Go.Obj renaming cells->I
open Go renaming World->ab,Value->ax,Calls->ba,TypeId->cI
open Go.Ending renaming returned->ay
variable{w W:ab}{n:Int}{K:List ByteArray}{b B s r:Nat}{x:mO}{a:ByteArray}{P:Program}{e:cI}{k l m:ax}{S:Nat->Prop}
section
attribute [local go_sem] Oper.semAt_some
theorem aa.Pj{a:ab}(h:Below B w a):aa (λk=>B<=k) w a:=
 ⟨h.os,h.tape,h.output,h.size,λk _ b=>h.block k (by omega)⟩
def pJ(b:List ByteArray){n:Nat}(a:List (Fin n)):List ByteArray:=a.map λi=>b.getD i.val ByteArray.empty
theorem Fi{a:List ByteArray}{n:Nat}(h:n=a.length):pJ a (oH n 0)=a.reverse:=by
 subst h;unfold pJ oH;rw[SD,List.map_reverse];congr 1;apply List.ext_getElem
 ·simp
 ·intro i b c;simp
theorem AS{b:aF}{h:List ByteArray}{n:Nat}(f:aq w b)(j:w.heap.size<=B):OwnFrom B (λ(a:List (Fin n)) W=>iS b w (pJ h a) W/\w.heap.size<W.heap.size):=
 λ_ _ _ _ d c g=>⟨d.1.ai f (aa.grown c) (λi e=>by have:=(g i e.symm).1;omega),kz d.2 c.size⟩
theorem Bb(j:aF)(s:List ByteArray)(m q g c:Nat)(a:List Nat)(n:Int)(hn:1<=n/\n<=9)(w:ab)(R:aq w j)(ht:il j)(u:a.length=s.length)(M:s.length<=30)(hc:w.cell? ⟨m,0,Y⟩=V (J (V ⟨g,0,Y⟩) a.length c))(a3:∀i (h:i<a.length),w.cell? ⟨g,i,Y⟩=V (ve a[i]))(G:g∉j.fp)(a4:g<w.heap.size)(d:∀i (h:i<a.length),w.heap[a[i]]?=V (I #[X (V ⟨j.sb,0,Y⟩)] 32 (0,0))/\w.heap[a[i]+1]?=V (I #[O (s.getD i ByteArray.empty)] 9 (0,0)))(z:∀k,(k∈a\/∃b∈a,k=b+1)->k∉j.fp)(he:w.cell? ⟨q,0,Y⟩=V (Z U n))(L:j.keys.length<1000000000000)(Q:∀x,(aw j.au x).length<1000000000000):ba prog 58 #[X (V ⟨m,0,Y⟩),.nilIface,X (V ⟨q,0,Y⟩)] w λe w'=>e=ay (bt #[])/\iS j w s.reverse w':=by
 obtain⟨h1,h2⟩:=hn;have b4:(n==0)=false:=by simp;omega
 have b3:=mf_;have HS:QS (aq w j):=R;have T:QS (iS j w [] w):=⟨j,R,rfl,ht,λk=>by simp[uI,tg],λ_ h=>h,aa.refl _ _,eb _⟩
 have a1:QS (∀k (A:k<a.length) f W,iS j w f W->ba prog 176 #[X (V ⟨a[k],0,Y⟩),X (V ⟨a[k]+1,0,Y⟩)] W λe W'=>e=ay (bt #[])/\iS j w (f++[s.getD k ByteArray.empty]) W'/\aa (·∈j.fp) W W'):=λk A f W hW=>
  BF hW (d k A).2 (d k A).1 (z _ (.inl (nE A))) (z _ (.inr ⟨_,nE A,rfl⟩)) L Q
 have B:QS (∀k∈j.fp,k<w.heap.size):=bG R;have a0:QS (g∉j.fp):=G;have b0:a.length<=30:=by omega
 have C:QS (a.length=s.length):=u;clear R ht d z G L Q u M;refine(callsIn_wide (n:=8)).1 ?_;refine callsIn_of_wp_marks func58 rfl trivial ?_ rfl;simp only[ntmps58,vE,fN,pa,Nat.reduceAdd,Nat.reduceSub,QW,QX,Rv,Re,uE,tI];gi_wp2_with (refine⟨trivial,?_⟩;gi_at_call 121;go_must(refine(callsIn_wide.2 (ru _ _ _ _)).mono ?_;rintro e w1 ⟨rfl,rfl⟩))
 have N:(a.map ve).length=a.length:=by simp
 have y:=vL Fence.wide 7 trivial rfl (by omega) w.heap.size g c (a.map ve) (w.alloc (I #[J (V ⟨g,0,Y⟩) a.length c] 112)) (by simp) (by simp;omega) (by simp) (λi hi=>by
  have a5:i<a.length:=by simpa using hi
  rw[World.cell?_alloc_past _ _ _ a4,a3 i a5];simp) (by rw[N];omega)
 refine wpIn_rangeFunc_ownG (α:=Fin (a.map ve).length) rfl (by omega) (gf:=165) (lb:=#[X (V ⟨w.heap.size,0,Y⟩)]) rfl trivial (enters_of func165 (by kernel_rfl) rfl) y (λh k=>⟨k.1.trans h.1,k.2.trans h.2⟩) ?kb (Below.refl _ _) (λx=>rfl) (λf W=>iS j w (pJ s f) W/\w.heap.size<W.heap.size) (λ_ _ _=>False) ?own ?ownx ?start (λx=>{tmps:=#[X (V ⟨m,0,Y⟩),.nilIface,X (V ⟨q,0,Y⟩),undef,undef,undef,undef,(a.map ve)[x.val],.nilIface,ao false,undef,undef,X (V ⟨q,0,Y⟩),X (V ⟨q,0,Y⟩),Z U n,ao false,X (V ⟨m,0,Y⟩),X (V ⟨m,0,Y⟩),X (V ⟨m,0,Y⟩),J (V ⟨g,0,Y⟩) a.length c,.func (.func 165) #[] #[X (V ⟨w.heap.size,0,Y⟩)],Z U (x.val:Nat),(a.map ve)[x.val],undef,undef],defers:=[]}) ?assign ?body ?done (λ_ _ _ _ _ _ h=>h.elim)
 case kb=>
  intro W l o o' hl b1 S a8;simp at hl;have a6:l≠w.heap.size:=by omega
  have a7:l≠g:=by omega
  exact⟨World.putObj_heap_other (Ne.symm a6),World.putObj_heap_other (Ne.symm a7)⟩
 case own=>exact AS HS.o (by simp)
 case ownx=>exactλ_ _ _ _ _ h _ _=>h
 case start=>exact⟨T.o.ai HS.o (aa.alloc n_ _ _) (λ_ h=>h.elim),by simp⟩
 case assign=>
  intro l x W K F;have ez:Array.foldl (λ(t:Array ax) (x:Tmp×ax)=>match x with|(p,v)=>t.setIfInBounds p v) #[X (V ⟨m,0,Y⟩),.nilIface,X (V ⟨q,0,Y⟩),undef,undef,undef,undef,undef,.nilIface,ao false,undef,undef,X (V ⟨q,0,Y⟩),X (V ⟨q,0,Y⟩),Z U n,ao false,X (V ⟨m,0,Y⟩),X (V ⟨m,0,Y⟩),X (V ⟨m,0,Y⟩),J (V ⟨g,0,Y⟩) a.length c,.func (.func 165) #[] #[X (V ⟨w.heap.size,0,Y⟩)],undef,undef,undef,undef] (#[21,22].zip #[Z U (x.val:Nat),(a.map ve)[x.val]])=#[X (V ⟨m,0,Y⟩),.nilIface,X (V ⟨q,0,Y⟩),undef,undef,undef,undef,undef,.nilIface,ao false,undef,undef,X (V ⟨q,0,Y⟩),X (V ⟨q,0,Y⟩),Z U n,ao false,X (V ⟨m,0,Y⟩),X (V ⟨m,0,Y⟩),X (V ⟨m,0,Y⟩),J (V ⟨g,0,Y⟩) a.length c,.func (.func 165) #[] #[X (V ⟨w.heap.size,0,Y⟩)],Z U (x.val:Nat),(a.map ve)[x.val],undef,undef]:=by kernel_rfl
  simp only[ez];gi_wp2;simp only[Se]at F;exact F
 case body=>
  intro l f x W hI b2;have a9:x.val<a.length:=by have:=x.isLt;simpa using this
  have ex:(a.map ve)[x.val]=.func (.func 176) #[] #[X (V ⟨a[x.val],0,Y⟩),X (V ⟨a[x.val]+1,0,Y⟩)]:=by simp[ve]
  have HC:=a1.o x.val a9 (pJ s f) W hI.1;rw[ex];have HI:QS (w.heap.size<W.heap.size):=hI.2;generalize a[x.val]=kb at HC;clear hI y ex;gi_wp2_with (refine⟨trivial,?_⟩;gi_at_call 176;go_must(refine(CallsIn.inRound l (callsIn_wide.2 HC)).mono ?_;rintro e W1 ⟨rfl,a2,r⟩))
  have P:=HI.o;refine⟨⟨r.size,λk o A ho _=>?_⟩,⟨?_,?_⟩,?_,kz P r.size⟩
  ·simp at A;rw[r.block k (lg ho) (λhf=>by have:=B.o k hf;omega)];exact ho
  ·exact r.block _ P (λhf=>by have:=B.o _ hf;omega)
  ·exact r.block _ (by omega) a0.o
  ·have ek:pJ s (f++[x])=pJ s f++[s.getD x.val ByteArray.empty]:=by simp[pJ]
   rw[ek];exact a2
 case done=>
  rintro D ys W hD rfl hB F;gi_wp2;refine⟨by simp,.inl ⟨_,_,rfl,run_takeDeferred F,?_⟩⟩;refine⟨_,results_none rfl _ _ _,rfl,?_⟩;have H:=hB.1;rw[Fi (by rw[N];exact C.o)]at H;exact H.ai HS.o (aa.Pj (belowK_b (w:=w) (eb _) W D _ _ (by simp at hD;omega) F rfl rfl)) i_
end
theorem BZ(b c:Nat)(w:ab)(Q:ab->Prop)(h:ba prog 58 #[X (V ⟨b,0,Y⟩),.nilIface,X (V ⟨c,0,Y⟩)] w λe a=>e=ay (bt #[])/\Q a):CallsD prog 75 #[X (V ⟨b,0,Y⟩),X (V ⟨c,0,Y⟩)] .returning w λe g a=>e=ay (bt #[])/\g=.returning/\Q a:=by refine callsD_of_wpS func75 rfl λd i f=>?_;apply wpS_region;simp[wpOpsS,go_sem,recoverD,f,ntmps75];refine h.mono ?_;rintro e k ⟨rfl,j⟩;cases d;simp_all[bodyPostS,results,Tryz.results75]
theorem Aw(R:aF)(n:Int)(x:mO)(w:ab)(h:aq w R)(v:aD R.af n=V x)(M:x.ar=[]):ba prog 29 #[X (V ⟨R.sb,0,Y⟩),Z U n] w λe T=>e=ay (bt #[Z U x.aI,Z U 0])/\aq T {R with af:=del R.af n}/\aa (·∈R.fp) w T:=by
 obtain⟨m,a⟩:=Bl h v;have a5:=mf_;have A:=h.ai (((aa.refl n_ w).al (I #[Z U 0] 71)).al (I #[J Y 0 0] 114)) k_;have u:=fv R n _ A;rw[v]at u;simp only[uW,lp,bE]at u;have S:aQ (Z U) ((w.alloc (I #[Z U 0] 71)).alloc (I #[J Y 0 0] 114)) m (R.af.map λp=>(p.1,bE p.2)):=by have:=A.af.cy;rw[a]at this;exact this
 have c3:w.cell? ⟨R.sb,3,Y⟩=V (.map (V m)):=(h.cell 3).trans (by rw[<-a];rfl);have a4:=h.lt;have t:m∈R.fp:=by simp[aF.fp,aF.aP,a]
 have a2:=bG h _ t;have L:=pR (w.heap.size+1) [] [w.heap.size+1] m n _ (V ⟨x.eT,0,Y⟩) _ (fU w _) S (by rw[cd,v];rfl) (by simp;omega) (by simp);have g:(n,x)∈R.af:=bj v;obtain⟨N,d1,W⟩:=h.af.work g;obtain⟨-,-,o⟩:=A.af.work g;rw[M]at o;have C:QS (aQ O ((w.alloc (I #[Z U 0] 71)).alloc (I #[J Y 0 0] 114)) x.mb []):=o;have a6:x.eT<w.heap.size:=World.block_lt_of_cell? _ _ N;have z:x.eT≠m:=by have y:=h.nodup;simp only[aF.fp,aF.aP,a,RM,tI,uE,ey,cQ,Th]at y;intro e;refine y.2.1.1.2 (ns.2 ⟨(n,x),g,by simp[e]⟩)
 have G:QS (x.eT≠m):=z;have l:QS (aq w R):=h;have F:QS (R.wm=V m):=a;clear A S v h a W o z g;go_enter_defers func29,ntmps29;go_wp2_with(first
  |(go_at_call 65;go_must(refine u.mono ?_;rintro e j ⟨rfl,rfl⟩))
  |(at_len;go_must(refine jW _ rfl _ 124 rfl 9 144 Tryz.underlying124 x.mb rfl _ C.o ?_;simp only[pa]))
  |(go_at_call 76;go_must(refine L.mono ?_;rintro e j ⟨rfl,a0,C1,a3,a1,d,Q,K⟩;have c:j.heap[w.heap.size]?=V (I #[Z U 0] 71 (0,0)):=((d.block w.heap.size (by simp;omega) (by rintro(q|q);(simp at q);omega)).trans (Below.heap_alloc _ _ _ (by simp))).trans (az w _);have y0:j.cell? ⟨w.heap.size,0,Y⟩=V (Z U 0):=ae c 0;have y1:j.frozen? ⟨w.heap.size,0,Y⟩=false:=aj c 0;have D:QS (j.heap[w.heap.size]?=V (I #[Z U 0] 71 (0,0))):=c;clear c;have z0:j.cell? ⟨x.eT,0,Y⟩=V (Z U x.aI):=d.cell (p:=⟨x.eT,0,Y⟩) ((((aa.refl n_ w).al _).al _).cell (p:=⟨x.eT,0,Y⟩) N id) (by rintro(q|q);((simp at q);omega);exact G.o q))))
 refine leaves_cons (f:=75) (args:=#[X (V ⟨w.heap.size+1,0,Y⟩),X (V ⟨w.heap.size,0,Y⟩)]) (by simp) (by simp[go_sem]) ?_;have s:=ak (i:=0) D.o (Z U 0);refine(vS (w.heap.size+1) w.heap.size _ ?_).mono ?_
 ·exact ae s 0
 rintro e u' a7 ⟨rfl,rfl,rfl⟩;have b:aq (j.setCell ⟨w.heap.size,0,Y⟩ (Z U 0)) {R with af:=del R.af n}/\aa (·∈R.fp) w (j.setCell ⟨w.heap.size,0,Y⟩ (Z U 0)):=by
  have s1:=(l.o.ai (((aa.refl n_ w).al _).al _) k_).vo F.o (λk B u=>by have:=bG l.o k u;simp at B;omega) d K;refine⟨s1.ai (aa.setCell _ _ _) (λk B e=>?_),?_⟩
  ·have e':k=w.heap.size:=e;have:=bG l.o k (pF.subset B);omega
  ·refine((((aa.refl (·∈R.fp) w).al _).al _).trans d (λk B h=>?_)).st (.inl (eb _)) _;rcases h with h|rfl
   ·simp at h;omega
   ·exact t
 have H:=ae s 0;generalize j.setCell ⟨w.heap.size,0,Y⟩ (Z U 0)=W3 at b H;simp at H;simp[Leaves,settle,results,Tryz.results29,go_sem,H];exact b
def qG(R:aF)(n:Int)(x:mO)(w:ab)(e:Ending)(c:ab):Prop:=
 ∃a,bh a/\a.Perm (x.ar.map (·.1))/\(((∃k∈a,x.aI<eE (aw R.au k))/\e=ay (bt #[Z U 0,Z U 4])/\∃b,aq c b/\jx {R with af:=del R.af n} [] (km x.ar (R.now+1)) b/\aa (·∈R.fp) w c/\(∀k∈b.fp,k∈R.fp\/w.heap.size<=k)/\b.keys.length<=R.keys.length+30)\/
  ((∀k∈a,eE (aw R.au k)<=x.aI)/\e=ay (bt #[Z U (R.now+1),Z U 0])/\∃d,aq c {d with now:=R.now+1,af:=del R.af n}/\jx R a (km x.ar (R.now+1)) d/\aa (·∈R.fp) w c/\(∀k∈d.fp,k∈R.fp\/w.heap.size<=k)))
theorem Dr(c:aF)(j:List ByteArray)(m o:Nat)(a C:List Nat)(n:Int)(G:1<=n/\n<=9)(w:ab)(s:aq w c)(K:il c)(f:a.length=j.length)(l:j.length<=30)(Q:iP w m (a.map ve) C)(r:∀k∈C,k∉c.fp)(d:∀i (h:i<a.length),w.heap[a[i]]?=V (I #[X (V ⟨c.sb,0,Y⟩)] 32 (0,0))/\w.heap[a[i]+1]?=V (I #[O (j.getD i ByteArray.empty)] 9 (0,0)))(t:∀k,(k∈a\/∃b∈a,k=b+1)->k∉c.fp)(D:w.cell? ⟨o,0,Y⟩=V (Z U n))(z:c.keys.length<1000000000000)(A:∀x,(aw c.au x).length<1000000000000):ba prog 58 #[X (V ⟨m,0,Y⟩),.nilIface,X (V ⟨o,0,Y⟩)] w λe L=>e=ay (bt #[])/\iS c w j.reverse L:=by
 obtain⟨v,u,H,a1,rfl⟩:=Q;rcases H.2 with⟨rfl,B⟩|⟨g,p,M,rfl,T,a0,R,S,a2⟩
 ·have y:j=[]:=hU (by simp at B;simp[<-f,B]);subst y;refine(eG m o n G w (ae u 0) D).mono ?_;rintro e L ⟨rfl,W⟩;have q:iS c w [] w:=⟨c,s,rfl,K,λk=>by simp[uI,tg],λ_ h=>h,aa.refl _ _,eb _⟩
  exact⟨rfl,q.ai s W (λ_ h=>h.elim)⟩
 ·have N:(a.map ve).length=a.length:=by simp
  rw[N]at u;refine Bb c j m o g p a n G w s K f l (ae u 0) (λi F=>?_) (r g (by simp[Value.ownBlock])) (lg T) d t D z A;have P:=H.cellAt i (by simpa using F);rw[P];simp[F]
theorem uA{R:aF}(g:Good R)(a:ByteArray):(aw R.au a).length<100000000000:=by
 unfold aw;cases hl:aD R.au a with
 |none=>simp
 |some y=>
  have b:=bj hl;have c:=jT y.aE 0 R.now (g.rising _ b) (g.fH _ b);have d:=g.now;simp only[uW,lp];omega
theorem Ap{w1 q:ab}{R c:aF}{v:ax}{t:List ByteArray}{H:ByteArray->bF}{j:Nat}{m C:List Nat}(h:aq w R)(a0:R.wm=V s)(g:Good R)(W:bh t)(hj:j<t.length)(a6:t.length<=30)(a8:R.keys.length<900000000000)(b:fX ((w.alloc (I #[Z U 0] 71)).alloc (I #[J Y 0 0] 114)) R (w.heap.size+1) [] [w.heap.size+1] v t H j w1 c m C)(a5:aQ (Z U) q s (del (R.af.map λp=>(p.1,bE p.2)) n))(G:aa (·=s) w1 q)(hE:q.heap[w.heap.size]?=V (I #[Z U 0] 71 (0,0))):ba prog 58 #[X (V ⟨w.heap.size+1,0,Y⟩),.nilIface,X (V ⟨w.heap.size,0,Y⟩)] (q.setCell ⟨w.heap.size,0,Y⟩ (Z U 4)) λe w'=>e=ay (bt #[])/\((∃u,aq w' u/\jx {R with af:=del R.af n} [] H u/\(∀k∈u.fp,k∈R.fp\/w.heap.size+2<=k)/\u.keys.length<=R.keys.length+30)/\aa (λk=>(k∈R.fp\/w.heap.size+2<=k)/\k≠w.heap.size) (q.setCell ⟨w.heap.size,0,Y⟩ (Z U 4)) w'):=by
 have l:=b.jr.same;have a1:c.sb=R.sb:=by rw[l]
 have K:c.wm=V s:=by rw[l];exact a0
 have x:c.af=R.af:=by rw[l]
 have P:=bG h;have a2:s∈R.fp:=by simp[aF.fp,aF.aP,a0]
 have a7:=P _ a2;have A:s∈c.fp:=by simp[aF.fp,aF.aP,K]
 have b3:w.heap.size+2<=w1.heap.size:=by have:=b.keeps.size;simpa using this
 have B:∀k∈c.fp,k∈R.fp\/w.heap.size+2<=k:=λk f=>by
  rcases b.Nr k f with o|o
  ·exact .inl o
  ·simp at o;exact .inr (by omega)
 have a3:∀k∈C,k=w.heap.size+1\/w.heap.size+2<=k:=λk f=>by
  rcases b.cE k f with o|o
  ·simp at o;exact .inl o
  ·simp at o;exact .inr (by omega)
 have d:(aF.fp {c with af:=del R.af n}).Sublist c.fp:=by have:=pF (R:=c) (n:=n);rw[x]at this;exact this
 have N:∀k∈c.fp,k≠w.heap.size:=λk f e=>by
  rcases B k f with o|o
  ·have:=P k o;omega
  ·omega
 have s2:aq q {c with af:=del c.af n}:=b.store.vo (C:=[]) K (by simp) (G.mono (λ_ _ h=>.inr h)) (by rw[x];exact a5);rw[x]at s2;have S:aa (·=w.heap.size) q (q.setCell ⟨w.heap.size,0,Y⟩ (Z U 4)):=aa.setCell q ⟨w.heap.size,0,Y⟩ (Z U 4);have s3:aq (q.setCell ⟨w.heap.size,0,Y⟩ (Z U 4)) {c with af:=del R.af n}:=s2.ai S (λk f e=>N k (d.subset f) e);have r:aa (λk=>k=s\/k=w.heap.size) w1 (q.setCell ⟨w.heap.size,0,Y⟩ (Z U 4)):=(G.mono (λ_ _ h=>.inl h)).tr S (λ_ h=>.inr h);have L:w1.heap[w.heap.size]?=V (I #[Z U 0] 71 (0,0)):=by rw[<-G.block w.heap.size (by omega) (λe=>by have e':w.heap.size=s:=e;omega)];exact hE
 have t3:il {c with af:=del R.af n}:=⟨b.jr.tied.bP,b.jr.tied.keys,b.jr.tied.filled⟩
 have M:iP (q.setCell ⟨w.heap.size,0,Y⟩ (Z U 4)) (w.heap.size+1) (m.map ve) C:=by
  have:=b.uH.ai r (λk f e=>by
   rcases e with rfl|rfl
   ·exact b.GP _ f A
   ·rcases a3 _ f with o|o<;>omega)
  simpa using this
 have T:m.length=(t.take j).length:=by rw[b.len,js];omega
 have Q:∀i (F:i<m.length),(m[i]≠s/\m[i]≠w.heap.size)/\m[i]+1≠s/\m[i]+1≠w.heap.size:=λi F=>by
  obtain⟨o,h2⟩:=b.boxes i F;refine⟨⟨λe=>(b.apart _ (.inr (.inl (nE F)))).1 (e▸A),λe=>?_⟩,λe=>(b.apart _ (.inr (.inr ⟨_,nE F,rfl⟩))).1 (e▸A),λe=>?_⟩
  ·rw[e,L]at o;simp at o
  ·rw[e,L]at h2;simp at h2
 have a9:((w.alloc (I #[Z U 0] 71)).alloc (I #[J Y 0 0] 114)).heap.size=w.heap.size+2:=by simp
 have D:jx {R with af:=del R.af n} (t.take j) H {c with af:=del R.af n}:=⟨by rw[l],b.jr.aE,t3⟩
 refine(Dr {c with af:=del R.af n} (t.take j) (w.heap.size+1) w.heap.size m C 4 (by omega) _ s3 t3 T (by rw[js];omega) M (λk f hf=>b.GP k f (d.subset hf)) (λi F=>?_) (λk f hf=>?_) (ae (ak (i:=0) hE (Z U 4)) 0) ?_ (λy=>?_)).mono ?_
 ·have a4:i<j:=by have:=b.len;omega
  have e1:(t.take j).getD i ByteArray.empty=t.getD i ByteArray.empty:=by simp[a4]
  obtain⟨b1,b2⟩:=b.boxes i F;obtain⟨⟨n1,n2⟩,n3,n4⟩:=Q i F;refine⟨?_,?_⟩
  ·show _=V (I #[X (V ⟨c.sb,0,Y⟩)] _ _);rw[a1,<-b1];exact r.block _ (lg b1) (by rintro(e|e);exact n1 e;exact n2 e)
  ·rw[e1,<-b2];exact r.block _ (lg b2) (by rintro(e|e);exact n3 e;exact n4 e)
 ·exact(b.apart _ (.inr f)).1 (d.subset hf)
 ·show c.keys.length<_;have:=b.yu;omega
 ·show(aw c.au y).length<_;have o:=uA g y;rw[b.jr.aE];split
  ·simp;omega
  ·omega
 ·rintro e w' ⟨rfl,z⟩;obtain⟨u,g1,g2,g3,g4,g5⟩:=z.all D ((fK W).sublist (List.take_sublist _ _));refine⟨rfl,⟨u,g1,g2,λk f=>B k (d.subset (g3 k f)),?_⟩,g4.mono (λk _ f=>⟨B k (d.subset f),N k (d.subset f)⟩)⟩;have o:u.keys.length<=c.keys.length:=g5;have h2:=b.yu;omega
theorem Cc(R:aF)(n:Int)(x:mO)(w:ab)(h:aq w R)(g:Good R)(t:il R)(hn:aD R.af n=V x)(d3:x.ar≠[])(f2:R.now<1000000000)(c6:R.keys.length<900000000000):ba prog 29 #[X (V ⟨R.sb,0,Y⟩),Z U n] w (qG R n x w):=by
 obtain⟨u,a4⟩:=Bl h hn;have f8:=mf_;have a8:aa n_ w ((w.alloc (I #[Z U 0] 71)).alloc (I #[J Y 0 0] 114)):=((aa.refl n_ w).al _).al _;have hW:=h.ai a8 k_;have D:=fv R n _ hW;rw[hn]at D;simp only[uW,lp,bE]at D;have c0:w.cell? ⟨R.sb,0,Y⟩=V (Z U R.now):=h.cell 0;have c3:w.cell? ⟨R.sb,3,Y⟩=V (.map (V u)):=(h.cell 3).trans (by rw[<-a4];rfl);have f7:=h.lt;have a7:u∈R.fp:=by simp[aF.fp,aF.aP,a4]
 have f5:=bG h _ a7;have W:(n,x)∈R.af:=bj hn;obtain⟨d0,d1,dM⟩:=h.af.work W;obtain⟨-,-,b4⟩:=hW.af.work W;have b5:=g.writes30 _ W;obtain⟨m,hm⟩:∃m,x.ar.length=m+1:=⟨x.ar.length-1,by have:=Rq.2 d3;omega⟩
 have f1:m<30:=by simp at b5;omega
 have b9:(x.ar.map λq=>(q.1,q.2.val)).length=m+1:=by rw[hO,hm]
 have d5:QS ((x.ar.map λq=>(q.1,q.2.val)).length=m+1):=b9;have d6:QS (aQ O ((w.alloc (I #[Z U 0] 71)).alloc (I #[J Y 0 0] 114)) x.mb (x.ar.map λq=>(q.1,q.2.val))):=b4;have g1:x.eT<w.heap.size:=World.block_lt_of_cell? _ _ d0;have b7:=Ep R n x (w.heap.size+1) [w.heap.size+1] _ hW g t W (fU w _) (λk F D=>by have:=bG h k D;simp at F;omega) c6;unfold bE at b7;have f9:=g.now.1;have N:QS (aq w R):=h;have HG:QS (Good R):=g;have a1:QS (R.wm=V u):=a4;have HN:QS (aD R.af n=V x):=hn;have b2:QS (aa n_ w ((w.alloc (I #[Z U 0] 71)).alloc (I #[J Y 0 0] 114))):=a8;clear hW hn h g t a4 dM b4 W b9 hm b5 d3 a8;go_enter_defers func29,ntmps29;go_wp2_with(first
  |(go_at_call 65;go_must(refine D.mono ?_;rintro e o ⟨rfl,rfl⟩))
  |(at_len;go_must(refine jW _ rfl _ 124 rfl 9 144 Tryz.underlying124 x.mb rfl _ d6.o ?_;rw[d5.o])))
 refine b7.mono ?_;rintro e o ⟨v,ks,K,l,⟨j,Rj,e8,C,hj,H,rfl,hB⟩|⟨T,rfl,c,fs,C,hS,hG,hC,c4,a3,L,a2,P⟩⟩
 ·have a:=hB.jr.same;have y:Rj.sb=R.sb:=by rw[a]
  have d:Rj.wm=V u:=by rw[a];exact a1.o
  have r:Rj.af=R.af:=by rw[a]
  have hS:=hB.store;have Q:aQ (Z U) o u (R.af.map λp=>(p.1,bE p.2)):=by have:=hS.af.cy;rw[d,r]at this;exact this
  have e3:o.cell? ⟨R.sb,3,Y⟩=V (.map (V u)):=by have:=hS.cell 3;rw[y]at this;rw[this];simp[bo,d]
  have e7:w.heap.size+2<=o.heap.size:=by have:=hB.keeps.size;simpa using this
  have s:o.heap[w.heap.size]?=V (I #[Z U 0] 71 (0,0)):=((hB.keeps.block w.heap.size (by simp;omega) (by rintro(G|G);exact absurd (bG N.o _ G) (by omega);(simp at G))).trans (Below.heap_alloc _ _ _ (by simp))).trans (az w _);have a6:QS (o.heap[w.heap.size]?=V (I #[Z U 0] 71 (0,0))):=s;have HB:QS (fX ((w.alloc (I #[Z U 0] 71)).alloc (I #[J Y 0 0] 114)) R (w.heap.size+1) [] [w.heap.size+1] v ks (km x.ar (R.now+1)) j o Rj e8 C):=hB;have e1:QS (aQ (Z U) o u (R.af.map λp=>(p.1,bE p.2))):=Q;have HR:QS (bh ks/\ks.Perm (x.ar.map (·.1))/\∃k∈ks,x.aI<eE (aw R.au k)):=⟨K,l,ks[j],nE hj,H⟩
  have c9:R.sb<o.heap.size:=by omega
  have c2:w.heap.size<o.heap.size:=by omega
  clear a y d r Q s hS K l H c0 c3 hB;go_wp2_with(first
   |(at_delete;go_must(refine fm _ rfl _ _ 54 3 rfl 123 cY Tryz.underlying54 Tryz.underlying3 u rfl n rfl _ e1.o ?_;intro M a9 B g2;have z:M.heap[w.heap.size]?=V (I #[Z U 0] 71 (0,0)):=(B.block w.heap.size (by omega) (λe=>by(have e':w.heap.size=u:=e);omega)).trans a6.o;have y0:M.cell? ⟨w.heap.size,0,Y⟩=V (Z U 0):=ae z 0;have y1:M.frozen? ⟨w.heap.size,0,Y⟩=false:=aj z 0;have a0:QS (M.heap[w.heap.size]?=V (I #[Z U 0] 71 (0,0))):=z;clear z)))
  refine leaves_cons (f:=75) (args:=#[X (V ⟨w.heap.size+1,0,Y⟩),X (V ⟨w.heap.size,0,Y⟩)]) (by simp) (by simp[go_sem]) ?_;have s:=ak (i:=0) a0.o (Z U 4);refine(BZ (w.heap.size+1) w.heap.size _ _ (Ap N.o a1.o HG.o HR.o.1 hj (by have b:=HR.o.2.1.length_eq;have h2:=HG.o.writes30 _ (bj HN.o);simp at b h2;omega) c6 HB.o a9 B a0.o)).mono ?_;rintro e u' b1 ⟨rfl,rfl,hK⟩;have hb:b1.cell? ⟨w.heap.size,0,Y⟩=V (Z U 4):=hK.2.cell (p:=⟨w.heap.size,0,Y⟩) (ae s 0) (λD=>by have:=D.2;simp at this);have A:qG R n x w (ay (bt #[Z U 0,Z U 4])) b1:=by
   obtain⟨⟨R0,s0,g0,f0,l0⟩,e5⟩:=hK;refine⟨ks,HR.o.1,HR.o.2.1,.inl ⟨HR.o.2.2,rfl,R0,s0,g0,?_,λk F=>?_,l0⟩⟩
   ·have b:aa (·∈R.fp) w o:=(b2.o.mono (λ_ _ h=>h.elim)).trans HB.o.keeps (λk F h=>by
     rcases h with h|h
     ·exact h
     ·simp at h;omega)
    have h2:=b.tr B (λk h=>by have h':k=u:=h;exact h'▸a7);refine(h2.st (p:=⟨w.heap.size,0,Y⟩) (.inl (eb _)) (Z U 4)).trans e5 (λk F h=>?_);rcases h.1 with b|b
    ·exact b
    ·omega
   ·rcases f0 k F with b|b
    ·exact .inl b
    ·exact .inr (by omega)
  simp[Leaves,settle,results,Tryz.results29,go_sem,hb];exact A
 ·have a:=hG.same;have y:c.sb=R.sb:=by rw[a]
  have d:c.wm=V u:=by rw[a];exact a1.o
  have r:c.af=R.af:=by rw[a]
  have b8:u∈c.fp:=by simp[aF.fp,aF.aP,d]
  have d2:R.sb∈c.fp:=by rw[<-y];simp[aF.fp]
  have Q:aQ (Z U) o u (R.af.map λp=>(p.1,bE p.2)):=by have:=hS.af.cy;rw[show({c with now:=R.now+1}:aF).wm=V u from d,show({c with now:=R.now+1}:aF).af=R.af from r]at this;exact this
  have e3:o.cell? ⟨R.sb,3,Y⟩=V (.map (V u)):=by have:=hS.cell 3;rw[show({c with now:=R.now+1}:aF).sb=R.sb from y]at this;rw[this];simp[bo,d]
  have e2:o.cell? ⟨R.sb,0,Y⟩=V (Z U (R.now+1)):=by have:=hS.cell 0;rw[show({c with now:=R.now+1}:aF).sb=R.sb from y]at this;rw[this];simp[bo]
  have b6:u∉C:=λD=>L _ D b8;have c8:R.sb∉C:=λD=>L _ D d2;have a5:R.sb≠u:=by have c7:=N.o.nodup;simp only[aF.fp,aF.aP,a1.o,RM,tI,uE,ey,cT,cQ,Th]at c7;exact c7.1.1
  have S:fs.length<1000000000000:=by have b:=l.length_eq;have h2:=HG.o.writes30 _ (bj HN.o);simp at b h2 c4;omega
  have e6:=pR (w.heap.size+1) fs C u n _ (V ⟨x.eT,0,Y⟩) o hC Q (by rw[cd,HN.o];rfl) b6 S;have e7:w.heap.size+2<=o.heap.size:=by have:=a3.size;simpa using this
  have c1:w.heap.size∉C:=λD=>by
   rcases P _ D with b|b
   ·simp at b
   ·simp at b;omega
  have s:o.heap[w.heap.size]?=V (I #[Z U 0] 71 (0,0)):=((a3.block w.heap.size (by simp;omega) (by rintro(G|G);exact absurd (bG N.o _ G) (by omega);(simp at G))).trans (Below.heap_alloc _ _ _ (by simp))).trans (az w _);have a6:QS (o.heap[w.heap.size]?=V (I #[Z U 0] 71 (0,0))/\w.heap.size∉C/\R.sb∉C/\R.sb≠u):=⟨s,c1,c8,a5⟩
  have HS:QS (aq o {c with now:=R.now+1}):=hS;have d9:QS (jx R ks (km x.ar (R.now+1)) c):=hG;have HR:QS (bh ks/\ks.Perm (x.ar.map (·.1))/\∀k∈ks,eE (aw R.au k)<=x.aI):=⟨K,l,T⟩
  have e0:QS (aa (λk=>k∈R.fp\/k∈[w.heap.size+1]) ((w.alloc (I #[Z U 0] 71)).alloc (I #[J Y 0 0] 114)) o):=a3;have d4:QS ((∀k∈C,k∉c.fp)/\(∀k∈C,k∈[w.heap.size+1]\/((w.alloc (I #[Z U 0] 71)).alloc (I #[J Y 0 0] 114)).heap.size<=k)):=⟨L,P⟩
  have d8:QS (∀k∈c.fp,k∈R.fp\/((w.alloc (I #[Z U 0] 71)).alloc (I #[J Y 0 0] 114)).heap.size<=k):=a2;have d7:QS (c.sb=R.sb/\c.wm=V u/\c.af=R.af):=⟨y,d,r⟩
  have c9:R.sb<o.heap.size:=by omega
  have c2:w.heap.size<o.heap.size:=by omega
  clear a y d r b8 d2 Q b6 c8 a5 S c1 s hS hG K l T a3 L P a2 hC c4 c0 c3;go_wp2_with(first
   |(go_at_call 76;go_must(refine e6.mono ?_;rintro e M ⟨rfl,f3,C2,f6,f4,B,e9,a9⟩;obtain⟨q1,q2,q3,q4⟩:=a6.o;have z:M.heap[w.heap.size]?=V (I #[Z U 0] 71 (0,0)):=(B.block w.heap.size (by omega) (by rintro(G|G);exact q2 G;omega)).trans q1;have y0:M.cell? ⟨w.heap.size,0,Y⟩=V (Z U 0):=ae z 0;have y1:M.frozen? ⟨w.heap.size,0,Y⟩=false:=aj z 0;have a0:QS (M.heap[w.heap.size]?=V (I #[Z U 0] 71 (0,0))):=z;have z0:M.cell? ⟨R.sb,0,Y⟩=V (Z U (R.now+1)):=B.cell (p:=⟨R.sb,0,Y⟩) e2 (by rintro(G|G);exact q3 G;exact q4 G);clear z q1 q2 q3 q4)))
  refine leaves_cons (f:=75) (args:=#[X (V ⟨w.heap.size+1,0,Y⟩),X (V ⟨w.heap.size,0,Y⟩)]) (by simp) (by simp[go_sem]) ?_;have s:=ak (i:=0) a0.o (Z U 0);refine(vS (w.heap.size+1) w.heap.size _ ?_).mono ?_
  ·exact ae s 0
  rintro e u' b1 ⟨rfl,rfl,rfl⟩;have A:qG R n x w (ay (bt #[Z U (R.now+1),Z U 0])) (M.setCell ⟨w.heap.size,0,Y⟩ (Z U 0)):=by
   obtain⟨y,d,r⟩:=d7.o;obtain⟨L,P⟩:=d4.o;have a2:=d8.o;have s1:aq M {c with now:=R.now+1,af:=del c.af n}:=HS.o.vo (R:={c with now:=R.now+1}) d (λk F D=>L k F D) B (by rw[show({c with now:=R.now+1}:aF).af=R.af from r];exact a9);have c5:∀k∈c.fp,k∈R.fp\/w.heap.size+2<=k:=λk F=>by
    rcases a2 k F with b|b
    ·exact .inl b
    ·simp at b;exact .inr (by omega)
   rw[r]at s1;refine⟨ks,HR.o.1,HR.o.2.1,.inr ⟨HR.o.2.2,rfl,c,s1.ai (aa.setCell _ _ _) (λk F e=>?_),d9.o,?_,λk F=>?_⟩⟩
   ·have e':k=w.heap.size:=e;have e4:k∈c.fp:=by have:=(pF (R:={c with now:=R.now+1}) (n:=n)).subset (show k∈aF.fp {c with now:=R.now+1,af:=del c.af n} by rw[r];exact F);exact this
    rcases c5 k e4 with b|b
    ·have:=bG N.o k b;omega
    ·omega
   ·have b:aa (·∈R.fp) w o:=(b2.o.mono (λ_ _ h=>h.elim)).trans e0.o (λk F h=>by
     rcases h with h|h
     ·exact h
     ·simp at h;omega)
    refine(b.trans B (λk F h=>?_)).st (.inl (eb _)) _;rcases h with h|rfl
    ·rcases P k h with b|b
     ·simp at b;omega
     ·simp at b;omega
    ·exact a7
   ·rcases c5 k F with b|b
    ·exact .inl b
    ·exact .inr (by omega)
  have hb:=ae s 0;generalize M.setCell ⟨w.heap.size,0,Y⟩ (Z U 0)=W3 at A hb;simp at hb;simp[Leaves,settle,results,Tryz.results29,go_sem,hb];exact A
def aF.zero(b:Nat):aF:=⟨b,0,0,0,Y,[],Y,[],0,Y,[],J Y 0 0,[],Y,[]⟩
theorem He(w:ab):ba prog 6 #[] w λe b=>e=ay (X (V ⟨w.heap.size,0,Y⟩))/\aq b (aF.zero w.heap.size)/\aa n_ w b:=by go_enter func6,ntmps6;go_wp2;go_ret;refine⟨rfl,⟨az w _,⟨rfl,λp a=>(by cases a),rfl,rfl⟩,⟨Row.nil _ _ _,rfl,λp a=>(by cases a)⟩,by simp[aF.fp,aF.aP,aF.bp,aF.zero,cL,Value.ownBlock]⟩,aa.alloc _ _ _⟩
theorem zR(b:Nat):il (aF.zero b):=⟨List.Pairwise.nil,λk=>rfl,λp a=>by cases a⟩
theorem fZ.left_eq{α:Type}{mk:α->ax}{l left:List (α×ax)}(h:fZ mk w r b l left):w.rangeLeft b r=left.length:=by obtain⟨i,a,c,d,e,_,_,g,_,_,f⟩:=h;have:=Rc List.length f;simp at this;unfold World.rangeLeft;rw[e,g];exact this
theorem mQ{α β:Type}[DecidableEq α]:∀{l:List (α×β)} {k:α} {v:β},(k,v)∈l->(del l k).length<l.length
 |[],_,_,h=>by cases h
 |(a,x)::r,k,v,h=>by
  unfold del;by_cases e:a=k
  ·rw[fy e];simp
  ·rw[el e];rcases cT.1 h with b|b
   ·cases b;exact absurd rfl e
   ·simp only[fN];have:=mQ b;omega
theorem JS{t b:cI}(a:P.underlying t=V (.map b e))(w:ab):(Instr.range t (.map Y)).run P w=.ok (X (V ⟨w.heap.size,0,Y⟩)) (w.alloc (.mapIter Y 0 #[] 0)):=by simp[Instr.range,run_underlying a]
theorem Mp(b:cI)(w:ab)(h:w.heap[r]?=V (.mapIter Y 0 #[] 0)):(Instr.next (X (V ⟨r,0,Y⟩)) false b).run P w=.ok (bt #[ao false]) w:=by
 have a:(getObj r).run P w=.ok (.mapIter Y 0 #[] 0) w:=by simp[getObj,Sem.run,h]
 simp[Instr.next,a]
theorem AJ(W:ab)(b:Nat)(k l m n o p:ax)(a:Array ax)(j:a.getD 2 undef=X (V ⟨b,0,Y⟩))(h:W.heap[b]?=V (I #[k,l,m,n,o,p] 52 (0,0))):(results Tryz.f10 a).run prog W=.ok (.agg #[k,l,m,n,o,p]) W:=by have c:=ae h 0;have d:=ae h 1;have e:=ae h 2;have f:=ae h 3;have g:=ae h 4;have i:=ae h 5;simp at c d e f g i;simp only[Tp]at j;simp[results,Tryz.results10,go_sem,j,c,d,e,f,g,i]
theorem Jk{n o p:ax}(h:W.heap[b]?=V (I #[k,l,m,n,o,p] e (0,0)))(a c d f g j:ax):((((((W.setCell ⟨b,0,Y⟩ a).setCell ⟨b,1,Y⟩ c).setCell ⟨b,2,Y⟩ d).setCell ⟨b,3,Y⟩ f).setCell ⟨b,4,Y⟩ g).setCell ⟨b,5,Y⟩ j).heap[b]?=V (I #[a,c,d,f,g,j] e (0,0)):=by have:=ak (i:=5) (ak (i:=4) (ak (i:=3) (ak (i:=2) (ak (i:=1) (ak (i:=0) h a) c) d) f) g) j;simpa using this
theorem GW{e:Nat}{i j n c d f g:ax}(h:s≠e)(o:W.cell? ⟨s,0,Y⟩=V c)(q:W.cell? ⟨s,1,Y⟩=V d)(r:W.cell? ⟨s,3,Y⟩=V f)(t:W.cell? ⟨s,6,Y⟩=V g):let a:=(((((W.setCell ⟨e,0,Y⟩ i).setCell ⟨e,1,Y⟩ j).setCell ⟨e,2,Y⟩ k).setCell ⟨e,3,Y⟩ l).setCell ⟨e,4,Y⟩ m).setCell ⟨e,5,Y⟩ n
 a.cell? ⟨s,0,Y⟩=V c/\a.cell? ⟨s,1,Y⟩=V d/\a.cell? ⟨s,3,Y⟩=V f/\a.cell? ⟨s,6,Y⟩=V g:=by
 have b:aa (·=e) W ((((((W.setCell ⟨e,0,Y⟩ i).setCell ⟨e,1,Y⟩ j).setCell ⟨e,2,Y⟩ k).setCell ⟨e,3,Y⟩ l).setCell ⟨e,4,Y⟩ m).setCell ⟨e,5,Y⟩ n):=
  ((((((aa.refl (·=e) W).st (.inr rfl) _).st (.inr rfl) _).st (.inr rfl) _).st (.inr rfl) _).st (.inr rfl) _).st (.inr rfl) _
 exact⟨b.cell (p:=⟨s,0,Y⟩) o h,b.cell (p:=⟨s,1,Y⟩) q h,b.cell (p:=⟨s,3,Y⟩) r h,b.cell (p:=⟨s,6,Y⟩) t h⟩
theorem JA(R:aF)(w:ab)(h:aq w R)(T S:Int->Prop)(Q:∀W,aa n_ w W->ba prog 22 #[X (V ⟨R.sb,0,Y⟩)] W λe s=>∃c:Int,T c/\e=ay (Z U c)/\aa n_ W s)(N:∀W,aa n_ w W->ba prog 23 #[X (V ⟨R.sb,7,Y⟩)] W λe s=>∃c:Int,S c/\e=ay (Z U c)/\aa n_ W s):ba prog 10 #[X (V ⟨R.sb,0,Y⟩)] w λe s=>(∃p c:Int,T p/\S c/\e=ay (.agg #[Z U R.now,Z U R.aK,Z U R.af.length,Z U p,Z U c,Z U R.aA.length]))/\aa n_ w s:=by
 have HP:=E Q;have HC:=E N;have t:QS (∀W,aa n_ w W->(Builtin.len_ #[54] 3 #[.map R.wm]).run prog W=.ok (Z U R.af.length) W):=λW C=>by have:=(h.ai C k_).af.cy.length (P:=prog) Tryz.underlying54 3;rwa[hO]at this
 have g:QS (∀W,aa n_ w W->(Builtin.len_ #[56] 3 #[.map R.cm]).run prog W=.ok (Z U R.aA.length) W):=λW C=>by have:=(h.ai C k_).af.cU.length (P:=prog) Tryz.underlying56 3;rwa[hO]at this
 have y:w.cell? ⟨R.sb,0,Y⟩=V (Z U R.now):=h.cell 0;have z:w.cell? ⟨R.sb,1,Y⟩=V (Z U R.aK):=h.cell 1;have A:w.cell? ⟨R.sb,3,Y⟩=V (.map R.wm):=h.cell 3;have B:w.cell? ⟨R.sb,6,Y⟩=V (.map R.cm):=h.cell 6;have a0:=h.lt;clear h Q N;go_enter func10,ntmps10;go_wp2_with fail;have D:=t.o ((w.alloc (I #[Z U 0,Z U 0,Z U 0,Z U 0,Z U 0,Z U 0] 52)).drew) (((aa.refl n_ w).al _).dr);have H:=g.o ((w.alloc (I #[Z U 0,Z U 0,Z U 0,Z U 0,Z U 0,Z U 0] 52)).drew) (((aa.refl n_ w).al _).dr);have i:R.sb≠w.heap.size:=by omega
 have d:=E (And.intro y (And.intro z (And.intro A B)));go_region_held3(λW=>W.cell? ⟨R.sb,0,Y⟩=V (Z U R.now)/\W.cell? ⟨R.sb,1,Y⟩=V (Z U R.aK)/\W.cell? ⟨R.sb,3,Y⟩=V (.map R.wm)/\W.cell? ⟨R.sb,6,Y⟩=V (.map R.cm)/\(Builtin.len_ #[54] 3 #[.map R.wm]).run prog W=.ok (Z U R.af.length) W/\(Builtin.len_ #[56] 3 #[.map R.cm]).run prog W=.ok (Z U R.aA.length) W) (first|go_keep|(refine⟨(GW i n o q r).1,(GW i n o q r).2.1,(GW i n o q r).2.2.1,(GW i n o q r).2.2.2,t.o _ ?_,g.o _ ?_⟩;all_goals exact(((((b.st (.inl (eb _)) _).st (.inl (eb _)) _).st (.inl (eb _)) _).st (.inl (eb _)) _).st (.inl (eb _)) _).st (.inl (eb _)) _)) (first
  |(go_at_call 22;refine(HP.o _ (((aa.refl n_ w).al _).dr)).mono ?_;rintro e M ⟨pn,m,rfl,k⟩;have a:aa n_ w M:=(((aa.refl n_ w).al _).dr).tr k i_;have F:=t.o M a;have K:=g.o M a;have p0:=a.cell (p:=⟨R.sb,0,Y⟩) d.o.1 id;have p1:=a.cell (p:=⟨R.sb,1,Y⟩) d.o.2.1 id;have p3:=a.cell (p:=⟨R.sb,3,Y⟩) d.o.2.2.1 id;have p6:=a.cell (p:=⟨R.sb,6,Y⟩) d.o.2.2.2 id;have x:=E m;clear m)
  |(go_at_call 23;refine(HC.o _ a).mono ?_;rintro e u ⟨c,j,rfl,l⟩;have v:=E j;clear j;have b:aa n_ w u:=a.tr l i_;have G:=t.o u b;have L:=g.o u b;have n:=b.cell (p:=⟨R.sb,0,Y⟩) d.o.1 id;have o:=b.cell (p:=⟨R.sb,1,Y⟩) d.o.2.1 id;have q:=b.cell (p:=⟨R.sb,3,Y⟩) d.o.2.2.1 id;have r:=b.cell (p:=⟨R.sb,6,Y⟩) d.o.2.2.2 id;have f:u.heap[w.heap.size]?=V (I #[Z U 0,Z U 0,Z U 0,Z U 0,Z U 0,Z U 0] 52 (0,0)):=bO ((aa.drew n_ _).tr (k.tr l i_) i_) id;have t0:=ae f 0;have t1:=ae f 1;have t2:=ae f 2;have t3:=ae f 3;have t4:=ae f 4;have t5:=ae f 5;have u0:=aj f 0;have u1:=aj f 1;have u2:=aj f 2;have u3:=aj f 3;have u4:=aj f 4;have u5:=aj f 5))
 clear D F G H K L p0 p1 p3 p6 n o q r t0 t1 t2 t3 t4 t5 u0 u1 u2 u3 u4 u5;have HE:=E f;clear f;go_wp2;refine bodyPost_ret (AJ _ _ _ _ _ _ _ _ _ rfl (Jk HE.o _ _ _ _ _ _)) rfl ⟨⟨pn,c,x.o,v.o,rfl⟩,?_⟩;exact(((((b.st (.inl (eb _)) _).st (.inl (eb _)) _).st (.inl (eb _)) _).st (.inl (eb _)) _).st (.inl (eb _)) _).st (.inl (eb _)) _
theorem Good.del{R:aF}(g:Good R)(n:Int):Good {R with af:=del R.af n}:=by have b:∀p∈Go.Proofs.YtjbkfdeldlajhaaGreatDoor.del R.af n,p∈R.af:=λp a=>(dC _ _).subset a;exact⟨g.now,g.aJ,mA (dC R.af n).length_le g.dm,λp a=>g.numbers p (b p a),λp a=>g.aI p (b p a),λp a=>g.writes30 p (b p a),λp a=>g.nF p (b p a),g.rising,g.fH,g.filled,g.hkeys,g.wy,g.sorted,g.keys⟩
theorem mg{b:List (ByteArray×sM)}(d:(b.map (·.1)).Nodup){p:ByteArray×sM}(h:p∈b):aD b p.1=V p.2/\aw b p.1=p.2.aE:=by
 have g:aD b p.1=V p.2:=by
  induction b with
  |nil=>cases h
  |cons q r ih=>
   obtain⟨a,y⟩:=q;rw[mU,ey]at d;unfold aD;rcases cT.1 h with e|c
   ·cases e;simp
   ·have f:a≠p.1:=λe=>d.1 (fI.2 ⟨p,c,e.symm⟩);rw[el f];exact ih d.2 c
 exact⟨g,by unfold aw;rw[g];rfl⟩
theorem Nn{a:List (ByteArray×sM)}{k:ByteArray}(h:aw a k≠[]):∃p∈a,p.1=k/\p.2.aE=aw a k:=by
 unfold aw at h⊢;cases hl:aD a k with
 |none=>rw[hl]at h;simp at h
 |some y=>exact⟨(k,y),bj hl,rfl,rfl⟩
theorem qd{R:aF}(g:Good R)(k:ByteArray):dP (aw R.au k)/\(∀v∈aw R.au k,(0<=v.aG/\v.aG<=R.now)/\fM v.value=true)/\(aw R.au k≠[]->dw k=true):=by
 by_cases h:aw R.au k=[]
 ·rw[h];exact⟨List.Pairwise.nil,λv b=>(by cases b),λh=>absurd rfl h⟩
 ·obtain⟨p,a,rfl,e⟩:=Nn h;rw[<-e];exact⟨g.rising p a,λv b=>⟨g.fH p a v b,g.wy p a v b⟩,λ_=>g.hkeys p a⟩
theorem Good.jr{R i:aF}{s:List ByteArray}{m:ByteArray->bF}(g:Good R)(h:jx R s m i)(H:(i.au.map (·.1)).Nodup)(f:Int)(d:R.now<=f/\f<=1000000000)(w:∀k∈s,dw k=true)(L:∀k∈s,fM (m k).value=true/\(m k).aG=f/\R.now<f):Good {i with now:=f}:=by
 have B:=h.same;have q:i.af=R.af:=by rw[B]
 have z:i.aJ=R.aJ:=by rw[B]
 have j:∀p∈i.au,dP p.2.aE/\(∀v∈p.2.aE,(0<=v.aG/\v.aG<=f)/\fM v.value=true)/\dw p.1=true:=by
  intro p l;obtain⟨y,o,D⟩:=qd g p.1;have n:=h.tied.filled p l;rw[<-(mg H l).2,h.aE]at n⊢;have K:=g.now.1;cases hm:bR s p.1 with
  |false=>
   rw[hm]at n;simp only[vg,RL]at n⊢;exact⟨y,λv c=>⟨⟨(o v c).1.1,Tg (o v c).1.2 d.1⟩,(o v c).2⟩,D n⟩
  |true=>
   have A:=(bA _ _).1 hm;obtain⟨M,C,N⟩:=L _ A;simp only[Rz];refine⟨?_,λv c=>?_,w _ A⟩
   ·unfold dP;rw[Rg];refine⟨y,List.pairwise_singleton _ _,λa F b G=>?_⟩;have u:b=m p.1:=by simpa using G
    have:=(o a F).1.2;rw[u,C];omega
   ·rcases cQ.1 c with r|r
    ·exact⟨⟨(o v r).1.1,Tg (o v r).1.2 d.1⟩,(o v r).2⟩
    ·have e:v=m p.1:=by simpa using r
     rw[e,C];exact⟨⟨by omega,ya _⟩,M⟩
 refine⟨⟨Tg g.now.1 d.1,d.2⟩,?_,?_,?_,?_,?_,?_,λp l=>(j p l).1,λp l v c=>((j p l).2.1 v c).1,h.tied.filled,λp l=>(j p l).2.2,λp l v c=>((j p l).2.1 v c).2,?_,?_⟩
 ·show 0<=i.aJ/\_;rw[z];exact g.aJ
 ·show i.af.length<=8;rw[q];exact g.dm
 ·show∀p∈i.af,1<=p.1/\p.1<=i.aJ;rw[q,z];exact g.numbers
 ·show∀p∈i.af,0<=p.2.aI/\p.2.aI<=f;rw[q];exactλp l=>⟨(g.aI p l).1,Tg (g.aI p l).2 d.1⟩
 ·show∀p∈i.af,_;rw[q];exact g.writes30
 ·show∀p∈i.af,_;rw[q];exact g.nF
 ·exact h.tied.bP.imp (λ{a b} t=>(jQ a b).1 t)
 ·intro k;show k∈i.keys↔∃x,aD i.au k=V x;rw[<-bA,h.tied.keys];exact QV
theorem Good.vh{R:aF}(g:Good R)(j:R.af.length<8)(f:R.aJ<1000000000000000)(b m:Nat)(wm:Option Nat):Good {R with aJ:=R.aJ+1,wm,af:=R.af++[(R.aJ+1,⟨b,m,R.now,[]⟩)]}:=by
 have c:∀p∈R.af++[(R.aJ+1,(⟨b,m,R.now,[]⟩:mO))],p∈R.af\/p=(R.aJ+1,⟨b,m,R.now,[]⟩):=λp a=>by simpa using a
 have i:=g.aJ;have d:=g.now;refine⟨g.now,⟨?_,?_⟩,?_,?_,?_,?_,?_,g.rising,g.fH,g.filled,g.hkeys,g.wy,g.sorted,g.keys⟩
 ·show 0<=R.aJ+1;omega
 ·show R.aJ+1<=_;omega
 ·show(R.af++[_]).length<=8;simp;omega
 ·intro p a;show 1<=p.1/\p.1<=R.aJ+1;rcases c p a with h|h
  ·have:=g.numbers p h;omega
  ·rw[h];simp;omega
 ·intro p a;rcases c p a with h|h
  ·exact g.aI p h
  ·rw[h];exact⟨d.1,ya _⟩
 ·intro p a;rcases c p a with h|h
  ·exact g.writes30 p h
  ·rw[h];simp
 ·intro p a;rcases c p a with h|h
  ·exact g.nF p h
  ·rw[h];intro q e;cases e
theorem Good.written{R:aF}{e:ByteArray}{b:Bool}(g:Good R)(o:aD R.af n=V x)(t:(R.af.map (·.1)).Nodup)(u:(x.ar.map (·.1)).Nodup)(l:dw a=true)(m:fM e=true)(j:(aD x.ar a).isSome=true\/x.ar.length<30):Good {R with af:=put R.af n {x with ar:=put x.ar a ⟨0,e,b⟩}}:=by
 have d:=bj o;have k:∀p∈put R.af n {x with ar:=put x.ar a ⟨0,e,b⟩},p∈R.af\/p=(n,{x with ar:=put x.ar a ⟨0,e,b⟩}):=λp c=>by
  rcases jl t c with h|⟨h,_⟩
  ·exact .inr h
  ·exact .inl h
 refine⟨g.now,g.aJ,?_,?_,?_,?_,?_,g.rising,g.fH,g.filled,g.hkeys,g.wy,g.sorted,g.keys⟩
 ·show(put R.af n _).length<=8;rw[oc,o];exact g.dm
 ·intro p c;rcases k p c with h|h
  ·exact g.numbers p h
  ·rw[h];have:=g.numbers (n,x) d;exact this
 ·intro p c;rcases k p c with h|h
  ·exact g.aI p h
  ·rw[h];have:=g.aI (n,x) d;exact this
 ·intro p c;rcases k p c with h|h
  ·exact g.writes30 p h
  ·rw[h];have i:=g.writes30 _ d;show(put x.ar a _).length<=30;rw[oc];simp only at i;split
   ·exact i
   ·rename_i s;rcases j with f|f
    ·exact absurd f s
    ·omega
 ·intro p c;rcases k p c with h|h
  ·exact g.nF p h
  ·rw[h];intro q r;rcases jl u r with f|⟨f,_⟩
   ·rw[f];exact⟨l,m,rfl⟩
   ·exact g.nF _ d q f
structure rr where
 now:Int
 aK:Int
 aJ:Int
 af:List (Int×(Int×List (ByteArray×bF)))
 aE:ByteArray->List bF
def aF.abs(R:aF):rr:=⟨R.now,R.aK,R.aJ,R.af.map (λp=>(p.1,(p.2.aI,p.2.ar))),aw R.au⟩
def rr.zero:rr:=⟨0,0,0,[],λ_=>[]⟩
def rr.opened(A:rr):rr:={A with aJ:=A.aJ+1,af:=A.af++[(A.aJ+1,(A.now,[]))]}
def rr.ended(A:rr)(n:Int):rr:={A with af:=del A.af n}
def rr.wrote(A:rr)(n b:Int)(c:List (ByteArray×bF))(a:ByteArray)(v:bF):rr:={A with af:=put A.af n (b,put c a v)}
def rr.nL(A:rr)(n:Int)(a:List (ByteArray×bF)):rr:=
 {A with now:=A.now+1,af:=del A.af n,aE:=λk=>if(aD a k).isSome then A.aE k++[km a (A.now+1) k]else A.aE k}
structure Inv(K:List ByteArray)(w:ab)(R:aF):Prop where
 st:aq w R
 cD:Good R
 tied:il R
 pm:R.pm=Y/\R.cm=Y
 wm:1<=R.aJ->∃b0,R.wm=V b0
 QG:∀k∈R.keys,k∈K
 QA:∀p∈R.af,∀q∈p.2.ar,q.1∈K
def OD(K:List ByteArray)(a:Nat->Prop)(w:ab)(b:Nat)(A:rr):Prop:=∃R,Inv K w R/\R.sb=b/\R.abs=A/\∀k∈R.fp,¬a k
theorem Inv.ai{a:ab}{R:aF}(h:Inv K w R)(c:aa S w a)(b:∀k∈R.fp,¬S k):Inv K a R:=
 ⟨h.st.ai c b,h.cD,h.tied,h.pm,h.wm,h.QG,h.QA⟩
theorem OD.ai{m:Nat->Prop}{e:ab}{A:rr}(h:OD K m w b A)(j:aa S w e)(i:∀k,k<w.heap.size->S k->m k):OD K m e b A:=by obtain⟨R,c,f,g,d⟩:=h;exact⟨R,c.ai j (λk a l=>d k a (i k (bG c.st k a) l)),f,g,d⟩
theorem OD.more{l a:Nat->Prop}{A:rr}(h:OD K l w b A)(i:∀k,a k->l k\/w.heap.size<=k):OD K a w b A:=by
 obtain⟨R,c,e,f,g⟩:=h;refine⟨R,c,e,f,λk d j=>?_⟩;rcases i k j with h|h
 ·exact g k d h
 ·have:=bG c.st k d;omega
theorem OD.lt{e:Nat->Prop}{A:rr}(h:OD K e w b A):b<w.heap.size/\¬e b:=by obtain⟨R,a,rfl,d,c⟩:=h;exact⟨a.st.lt,c _ (by simp[aF.fp])⟩
theorem mi{R:aF}(h:aq w R):(R.af.map (·.1)).Nodup:=by have:=h.af.cy.nodup;simpa[tO,tQ]using this
theorem kT{R:aF}(h:aq w R)(a:(n,x)∈R.af):(x.ar.map (·.1)).Nodup:=by have:=(h.af.eA _ a).2.nodup;simpa[tO,tQ]using this
theorem length_le_of_subset{α:Type}[DecidableEq α]:∀{l K:List α},l.Nodup->(∀k∈l,k∈K)->l.length<=K.length
 |[],K,_,_=>by simp
 |a::l,K,hn,hs=>by
  have c:a∈K:=hs a (by simp);have f:=length_le_of_subset (l:=l) (K:=K.erase a) (ey.1 hn).2 (λk d=>by have b:k≠a:=λe=>(ey.1 hn).1 (e▸d);exact(List.mem_erase_of_ne b).2 (hs k (by simp[d])))
  have g:=List.length_erase_of_mem c;have h:=List.length_pos_of_mem c;simp only[fN];omega
theorem Inv.fits{R:aF}(h:Inv K w R)(j:K.length<=30)(g:(n,x)∈R.af)(b:a∈K):(aD x.ar a).isSome=true\/x.ar.length<30:=by
 cases hl:aD x.ar a with
 |some v=>exact .inl rfl
 |none=>
  right;have c:a∉x.ar.map (·.1):=λi=>by obtain⟨q,f,e⟩:=fI.1 i;exact dU.1 hl q f e
  have:=length_le_of_subset (l:=a::x.ar.map (·.1)) (K:=K) (ey.2 ⟨c,kT h.st g⟩) (λk d=>by
   rcases cT.1 d with rfl|d
   ·exact b
   ·obtain⟨q,f,rfl⟩:=fI.1 d;exact h.QA _ g q f)
  simp at this;omega
theorem za(b:Nat):Good (aF.zero b):=
 ⟨⟨by simp[aF.zero],by simp[aF.zero]⟩,⟨by simp[aF.zero],by simp[aF.zero]⟩,by simp[aF.zero],λp a=>(by cases a),λp a=>(by cases a),λp a=>(by cases a),λp a=>(by cases a),λp a=>(by cases a),λp a=>(by cases a),λp a=>(by cases a),λp a=>(by cases a),λp a=>(by cases a),List.Pairwise.nil,λk=>⟨λc=>(by cases c),λ⟨x,d⟩=>(by cases d)⟩⟩
theorem Fc{R:aF}{l:List (ByteArray×bF)}(a:aD R.af n=V x):aF.fp {R with af:=put R.af n {x with ar:=l}}=R.fp:=by have e:=ki (λp:Int×mO=>[p.2.eT,p.2.mb]) (v:={x with ar:=l}) a rfl;simp only[aF.fp,aF.aP,aF.bp,e]
theorem Inv.wrote{k:ab}{R:aF}{d:ByteArray}{b:Bool}(h:Inv K w R)(o:K.length<=30)(i:aD R.af n=V x)(c:a∈K)(f:dw a=true)(g:fM d=true)(s:aq k {R with af:=put R.af n {x with ar:=put x.ar a ⟨0,d,b⟩}}):Inv K k {R with af:=put R.af n {x with ar:=put x.ar a ⟨0,d,b⟩}}:=by
 have e:=bj i;refine⟨s,h.cD.written i (mi h.st) (kT h.st e) f g (h.fits o e c),⟨h.tied.bP,h.tied.keys,h.tied.filled⟩,h.pm,h.wm,h.QG,?_⟩;intro p r q j;rcases jl (mi h.st) r with rfl|⟨l,_⟩
 ·rcases jl (kT h.st e) j with rfl|⟨m,_⟩
  ·exact c
  ·exact h.QA _ e q m
 ·exact h.QA p l q j
end Go.Proofs.YtjbkfdeldlajhaaGreatDoor
