import Derived.Test.YtjbkfdeldlajhaaGreatDoorM04
set_option linter.unusedSimpArgs false
namespace Go.Proofs.YtjbkfdeldlajhaaGreatDoor
set_option maxRecDepth 100000
set_option maxHeartbeats 1000000
open Go.RowKit Go.Proofs.Tryz
open Option renaming none->Y,some->V
open Go.Value renaming int->Z,string->O,slice->J,pointer->X,bool->ao,tuple->bt
open Go.IntKind renaming i64->U
open Go.Obj renaming cells->I
open Go renaming World->ab,Value->ax,Calls->ba,TypeId->cI
open Go.Ending renaming returned->ay
variable{R:aF}{w:ab}{v kv':ax}{x key:ByteArray}{S:Nat->Prop}{keys' a:List ByteArray}{b:Nat}
theorem aq.GX{q:ab}(h:aq w R)(t:aa S w q)(z:∀k,k<w.heap.size->S k->k=R.sb\/R.kv.ownBlock=V k)(H:q.heap[R.sb]?=V (I (bo {R with kv:=kv'}) 61 (0,0)))(u:Row q 9 1 kv' keys'.length (keys'.map O))(B:∀g,kv'.ownBlock=V g->R.kv.ownBlock=V g\/w.heap.size<=g):aq q {R with kv:=kv',keys:=keys'}:=by
 have l:=bG h;have f:=h.nodup;have v:∀k∈R.aP,¬S k:=by
  intro k d x;have j:k∈R.fp:=by simp[aF.fp,d]
  rcases z k (l k j) x with e|e
  ·simp only[aF.fp,ey,cQ,Th]at f;exact f.1.1 (e▸d)
  ·simp only[aF.fp,aF.bp,ey,lf]at f;exact f.2.2.2 k d k (by simp[e]) rfl
 have n:∀k∈R.vm.toList++R.au.flatMap (λp=>p.2.sl.ownBlock.toList),¬S k:=by
  intro k d x;have j:k∈R.fp:=by
   simp only[aF.fp,aF.bp,cT,cQ]at d⊢;rcases d with h|h
   ·exact .inr (.inr (.inl (.inr h)))
   ·exact .inr (.inr (.inr h))
  rcases z k (l k j) x with e|e
  ·subst e;simp only[aF.fp,aF.bp,ey,cQ,Th]at f d;rcases d with h|h
   ·exact f.1.2.1.2 h
   ·exact f.1.2.2 h
  ·have i:=f;simp only[aF.fp,aF.bp,ey,lf,mE]at i;have F:=i.2.2.1.2.2;exact F k (by simp[e]) k (by simpa[cQ]using d) rfl
 have o:=h.af.ai t v;refine⟨H,⟨o.cy,o.eA,o.dc,o.cU⟩,⟨u,h.cg.ed.ai t (λb D=>n b (by simp[D])),λp i=>(h.cg.fA p i).ai t (λg G=>n g (fx _ (ns.2 ⟨p,i,by simp[G]⟩)))⟩,?_⟩;have i:∀m:ax,(aF.fp {R with kv:=m,keys:=keys'}).Perm (m.ownBlock.toList++(R.sb::(R.aP++(R.vm.toList++R.au.flatMap (λp=>p.2.sl.ownBlock.toList))))):=by intro m;show(R.sb::(R.aP++(m.ownBlock.toList++R.vm.toList++R.au.flatMap (λp=>p.2.sl.ownBlock.toList)))).Perm _;rw[mE];exact((RK _ _ _).cons _).trans Sf.symm
 rw[(i kv').nodup_iff];have r:(R.kv.ownBlock.toList++(R.sb::(R.aP++(R.vm.toList++R.au.flatMap (λp=>p.2.sl.ownBlock.toList))))).Nodup:=((i R.kv).nodup_iff).1 f;rw[lf]at r⊢;refine⟨by cases kv'.ownBlock<;>simp,r.2.1,?_⟩;intro a C c A e;subst e;have s:kv'.ownBlock=V a:=by simpa using C
 rcases B a s with y|y
 ·exact r.2.2 a (by simp[y]) a A rfl
 ·have:a∈R.fp:=(i R.kv).mem_iff.2 (fx _ A)
  have:=l a this;omega
theorem yO(W:ab)(v:bF):∀j u,v.cells[j]?=V u->((W.alloc (I #[Z U v.aG,O v.value,ao v.aO] 144)).drew).cell? ((⟨W.heap.size,0,Y⟩:Addr).add j)=V u:=by intro j u b;rw[Addr.add_lit,tA];have a:((W.alloc (I #[Z U v.aG,O v.value,ao v.aO] 144)).drew).heap[W.heap.size]?=V (I #[Z U v.aG,O v.value,ao v.aO] 144 (0,0)):=az W _;rw[ae a];simpa[bF.cells]using b
theorem Mb{W a:ab}{c s:Nat}{u x y:ax}(b:aa S W a)(i:¬S s)(d:¬S c)(e:W.cell? ⟨s,8,Y⟩=V u)(f:W.cell? ⟨c,0,Y⟩=V v)(g:W.cell? ⟨c,1,Y⟩=V x)(h:W.cell? ⟨c,2,Y⟩=V y):a.cell? ⟨s,8,Y⟩=V u/\a.cell? ⟨c,0,Y⟩=V v/\a.cell? ⟨c,1,Y⟩=V x/\a.cell? ⟨c,2,Y⟩=V y:=
 ⟨b.cell (p:=⟨s,8,Y⟩) e i,b.cell (p:=⟨c,0,Y⟩) f d,b.cell (p:=⟨c,1,Y⟩) g d,b.cell (p:=⟨c,2,Y⟩) h d⟩
theorem Row.one{e:cI}{c:List ax}(h:Row w e b v (0+1) ([]++c)):∃g a,v=J (V ⟨g,0,Y⟩) 1 a/\Row w e b (J (V ⟨g,0,Y⟩) 1 a) 1 c:=by obtain⟨g,a,rfl⟩:=h.succ;exact⟨g,a,rfl,by simpa using h⟩
theorem Ny(R:aF)(a:ByteArray)(v:bF)(b:Nat)(w:ab)(h:aq w R)(r:R.vm=V b)(hx:aD R.au a=Y)(M:bR R.keys a=false)(a9:bh R.keys)(hl:R.keys.length<1000000000000):ba prog 175 #[X (V ⟨R.sb,7,Y⟩),O a,.agg #[Z U v.aG,O v.value,ao v.aO]] w λe w'=>e=ay (bt #[])/\jK R a v w w':=by
 have hM:aQ O w b (R.au.map λp=>(p.1,p.2.sl)):=by have:=h.cg.ed;rw[r]at this;exact this
 have c5:w.cell? ⟨R.sb,7,Y⟩=V R.kv:=h.cell 7;have c6:w.cell? ⟨R.sb,8,Y⟩=V (.map (V b)):=(h.cell 8).trans (by rw[<-r];rfl);have a7:=h.lt;have c4:R.sb<w.heap.size+1:=by omega
 have d1:=yZ;have c7:∀(x:Bool) (w:ab),(Op.unary .not (ao x)).run prog w=.ok (ao (!x)) w:=λ_ _=>rfl;have b2:QS (aD (R.au.map λp=>(p.1,p.2.sl)) a=Y):=by unfold QS;rw[cd,hx];rfl
 have s:=je R.kv R.keys a (w.alloc (I #[Z U v.aG,O v.value,ao v.aO] 144)) (h.cg.cW.ai (aa.alloc n_ _ _) k_) a9 (by omega);rw[M]at s;have H:QS (aq w R):=h;have HX:QS (aD R.au a=Y):=hx;have b0:QS (bR R.keys a=false):=M;have n:QS (R.vm=V b):=r;have HM:QS (aQ O w b (R.au.map λp=>(p.1,p.2.sl))):=hM;have HL:QS (R.keys.length<1000000000000):=hl;have a0:QS (∀o,aa n_ (w.alloc (I #[Z U v.aG,O v.value,ao v.aO] 144)) o->ba prog 206 #[R.kv,Z U (below R.keys a),J (V ⟨o.heap.size,0,Y⟩) 1 1] (o.alloc (I #[O a] 9)) λe w'=>∃g a3,e=ay (J (V ⟨g,0,Y⟩) (R.keys.length+1) a3)/\Row w' 9 1 (J (V ⟨g,0,Y⟩) (R.keys.length+1) a3) (R.keys.length+1) ((eK R.keys (below R.keys a) a).map O)/\aa (λk=>R.kv.ownBlock=V k) (o.alloc (I #[O a] 9)) w'/\(R.kv.ownBlock=V g\/(o.alloc (I #[O a] 9)).heap.size<=g)):=λo f=>
  wE R.kv R.keys (below R.keys a) a o.heap.size _ (((h.cg.cW.ai (aa.alloc n_ _ _) k_).ai f k_).ai (aa.alloc n_ _ _) k_) (iF _ _) hl (az o _) (λe=>by have:=h.cg.cW.lt e;have:=f.size;simp at this;omega)
 have q:QS (∀g,R.kv.ownBlock=V g->g≠R.sb/\g≠b/\g<w.heap.size):=λg j=>by have hn:=((eX R a).nodup_iff).1 h.nodup;rw[lf]at hn;have hd:=hn.2.2;exact⟨λe=>hd g (by simp[j]) g (fx _ (by simp[aF.bY,e])) rfl,λe=>hd g (by simp[j]) g (fx _ (by simp[aF.bY,r,e])) rfl,h.cg.cW.lt j⟩
 have a2:QS (R.sb≠b):=by have hn:=h.nodup;simp only[aF.fp,aF.bp,ey,cQ,Th]at hn;exactλe=>hn.1.2.1.2 (by simp[r,e])
 have d0:b<w.heap.size:=hM.lt;obtain⟨i0,hi,b9,c0,c2⟩:=info_parts Tryz.lW;clear h hx M r hM hl a9;go_enter func175,ntmps175;go_wp2_with(first
  |(at_lookup;go_must(refine bC _ rfl _ _ 57 rfl 9 135 bJ Tryz.underlying57 Tryz.underlying9 _ (Tryz.cJ _) b rfl a rfl _ (HM.o.ai (aa.alloc n_ _ _) id) ?_;rw[b2.o];simp only[yg,Rk]))
  |(go_at_call 170;go_must(refine s.mono ?_;rintro e o ⟨rfl,f⟩;have l:aa n_ w o:=(aa.alloc n_ _ _).tr f i_;have d5:o.cell? ⟨R.sb,7,Y⟩=V R.kv:=l.cell (p:=⟨R.sb,7,Y⟩) c5 id;have b3:R.sb<o.heap.size:=by(have:=l.size;omega)))
  |(go_at_call 206;go_must(refine(a0.o o f).mono ?_;rintro e u ⟨d,c,rfl,a8,B,a6⟩;have m:aa (λk=>R.kv.ownBlock=V k) w u:=((l.mono (λ_ _ h=>h.elim)).al _).tr B i_;have f5:u.cell? ⟨R.sb,7,Y⟩=V R.kv:=m.cell (p:=⟨R.sb,7,Y⟩) c5 (λe=>(q.o _ e).1 rfl);have b4:u.frozen? ⟨R.sb,7,Y⟩=false:=by(rw[m.frozen (p:=⟨R.sb,7,Y⟩) a7 (λe=>(q.o _ e).1 rfl)];exact H.o.frozen 7))))
 have z:d≠R.sb/\d≠b/\(R.kv.ownBlock=V d\/w.heap.size<d):=by
  rcases a6 with e|e
  ·exact⟨(q.o d e).1,(q.o d e).2.1,.inl e⟩
  ·have:=l.size;have:=f.size;simp at e this;exact⟨by omega,by omega,.inr (by omega)⟩
 have a5:u.heap[R.sb]?=V (I (bo R) 61 (0,0)):=(m.block R.sb a7 (λe=>(q.o _ e).1 rfl)).trans H.o.top;have a4:u.heap[w.heap.size]?=V (I #[Z U v.aG,O v.value,ao v.aO] 144 (0,0)):=by have h1:o.heap[w.heap.size]?=V (I #[Z U v.aG,O v.value,ao v.aO] 144 (0,0)):=bO f id;have hz:=f.size;simp at hz;rw[B.block w.heap.size (by simp;omega) (λe=>by have:=(q.o _ e).2.2;omega),Below.heap_alloc _ _ _ (by omega)];exact h1
 have K3:aa (λk=>R.kv.ownBlock=V k\/k=R.sb) w (u.setCell ⟨R.sb,7,Y⟩ (J (V ⟨d,0,Y⟩) (R.keys.length+1) c)):=(m.mono (λ_ _ h=>.inl h)).st (.inr (.inr rfl)) _;have c1:∀g,(J (V ⟨d,0,Y⟩) (R.keys.length+1) c).ownBlock=V g->R.kv.ownBlock=V g\/w.heap.size<=g:=λg j=>by
  have y:d=g:=by simpa[Value.ownBlock]using j
  subst y;rcases z.2.2 with e|e
  ·exact .inl e
  ·right;omega
 have K:=H.o.GX (keys':=eK R.keys (below R.keys a) a) K3 (λk _ hs=>hs.elim (λe=>.inr e) (λe=>.inl e)) ((ak (i:=7) a5 _).trans (by simp[bo])) (by
  have b7:=a8.ai (aa.setCell u ⟨R.sb,7,Y⟩ (J (V ⟨d,0,Y⟩) (R.keys.length+1) c)) (λg j=>by
   have y:d=g:=by simpa[Value.ownBlock]using j
   exactλe=>z.1 (y.trans e))
  rw[iw _ _ _ (iF _ _)];exact b7) c1
 have T:(u.setCell ⟨R.sb,7,Y⟩ (J (V ⟨d,0,Y⟩) (R.keys.length+1) c)).heap[w.heap.size]?=V (I #[Z U v.aG,O v.value,ao v.aO] 144 (0,0)):=(Below.heap_setCell _ _ _ _ (by simp only;omega)).trans a4;have z3:w.heap.size+2<=(u.setCell ⟨R.sb,7,Y⟩ (J (V ⟨d,0,Y⟩) (R.keys.length+1) c)).heap.size:=by have h1:=f.size;have h2:=B.size;simp at h1 h2;simp;omega
 have G3:∀g,(J (V ⟨d,0,Y⟩) (R.keys.length+1) c).ownBlock=V g->g<(u.setCell ⟨R.sb,7,Y⟩ (J (V ⟨d,0,Y⟩) (R.keys.length+1) c)).heap.size:=λg j=>K.cg.cW.lt j;clear a5 a4 f l m B a8 d5 b3 f5 b4 s;generalize u.setCell ⟨R.sb,7,Y⟩ (J (V ⟨d,0,Y⟩) (R.keys.length+1) c)=W3 at K3 K T z3 G3;have p0:W3.cell? ⟨w.heap.size,0,Y⟩=V (Z U v.aG):=ae T 0;have p1:W3.cell? ⟨w.heap.size,1,Y⟩=V (O v.value):=ae T 1;have p2:W3.cell? ⟨w.heap.size,2,Y⟩=V (ao v.aO):=ae T 2;have p6:W3.cell? ⟨R.sb,8,Y⟩=V (.map (V b)):=(K.cell 8).trans (by rw[<-n.o];rfl);have c3:R.sb<W3.heap.size:=K.lt;have G:QS (aq W3 {R with kv:=J (V ⟨d,0,Y⟩) (R.keys.length+1) c,keys:=eK R.keys (below R.keys a) a}):=K;have b1:QS (aa (λk=>R.kv.ownBlock=V k\/k=R.sb) w W3):=K3;have a1:QS (aQ O W3 b (R.au.map λp=>(p.1,p.2.sl))):=by have:=K.cg.ed;simp only[n.o]at this;exact this
 clear K K3 T c5 c6;go_region_held3(λW=>W.cell? ⟨R.sb,8,Y⟩=V (.map (V b))/\W.cell? ⟨w.heap.size,0,Y⟩=V (Z U v.aG)/\W.cell? ⟨w.heap.size,1,Y⟩=V (O v.value)/\W.cell? ⟨w.heap.size,2,Y⟩=V (ao v.aO)) (go_keep) ((refine bV _ (by rfl) _ _ 135 (by rfl) 144 i0 _ 3 32 Tryz.underlying135 hi b9 c0 c2 (by rfl) (J Y 0 0) 0 [] (by rfl) (Row.nil _ _ _) ⟨W3.heap.size,0,Y⟩ 1 1 v.cells (by rfl) (by rfl) (yO W3 v) (by simp[bF.cells,Value.oneCell']) (by unfold maxLen;omega) (by omega) ?_;intro v' w5 Q L _ b6;obtain⟨F,D,rfl,S⟩:=Q.one;have N:aa n_ W3 w5:=(((aa.refl n_ W3).al _).dr).tr (aa.grown L) (λ_ h=>by simp[Value.ownBlock]at h);obtain⟨r0,r1,r2,r3⟩:=Mb N id id p6 p0 p1 p2;obtain⟨ob,c8,b5⟩:=(a1.o.ai N id).update (P:=prog) (t:=57) bJ Tryz.underlying57 Tryz.underlying9 a (J (V ⟨F,0,Y⟩) 1 D);obtain⟨t0,t1,t2,t3⟩:=Fh (aa.setBlock w5 b ob) a2.o (by omega) r0 r1 r2 r3));go_end0;have y:F=W3.heap.size+1:=by
  rcases b6 with h|h
  ·simp[Value.ownBlock]at h
  ·simpa[Value.ownBlock]using h
 have b8:aw R.au a=[]:=by unfold aw;rw[HX.o];rfl
 have d2:iz R.au a=J Y 0 0:=by unfold iz;rw[HX.o];rfl
 have C:aa (λk=>k=b) W3 (Go.ChangeMaps.setBlock w5 b ob):=(N.mono (λ_ _ h=>h.elim)).tr (aa.setBlock w5 b ob) i_;have c9:b<W3.heap.size:=a1.o.lt;refine⟨rfl,J (V ⟨d,0,Y⟩) (R.keys.length+1) c,b,J (V ⟨F,0,Y⟩) 1 D,?_,?_,c1,λg j=>?_,.inl n.o⟩
 ·rw[el (by rw[b0.o];simp),b8,uE];refine G.o.added a C (λk _ hs=>.inr (.inr (.inl (by rw[hs];exact n.o)))) ?_ ?_ b5 ?_ (λg j=>.inl j) (λg j=>?_) (.inl n.o) ?_
  ·have e:bo {R with kv:=J (V ⟨d,0,Y⟩) (R.keys.length+1) c,keys:=eK R.keys (below R.keys a) a,vm:=V b}=bo {R with kv:=J (V ⟨d,0,Y⟩) (R.keys.length+1) c,keys:=eK R.keys (below R.keys a) a}:=by simp[bo,n.o]
   show _=V (I (bo {R with kv:=J (V ⟨d,0,Y⟩) (R.keys.length+1) c,keys:=eK R.keys (below R.keys a) a,vm:=V b}) _ _);rw[e];exact(C.block R.sb c3 a2.o).trans G.o.top
  ·refine G.o.cg.cW.ai C (λg j e=>?_);have A:d=g:=by simpa[Value.ownBlock]using j
   exact z.2.1 (A.trans e)
  ·have:=S.ai (aa.setBlock w5 b ob) (λg j e=>by
    have A:F=g:=by simpa[Value.ownBlock]using j
    have e':g=b:=e;omega)
   simpa using this
  ·have A:F=g:=by simpa[Value.ownBlock]using j
   right;omega
  ·have h1:d≠F:=by have:=G3 d rfl;omega
   have h2:F≠b:=by omega
   simp[Value.ownBlock,h1,h2,z.2.1]
 ·refine b1.o.mono (λk hk h=>?_)|>.trans C (λk hk h=>?_)
  ·rcases h with h|rfl
   ·simp only[aF.fp,aF.bp,cT,cQ];exact .inr (.inr (.inl (.inl (by simp[h]))))
   ·simp[aF.fp]
  ·have h':k=b:=h;subst h';simp only[aF.fp,aF.bp,cT,cQ];exact .inr (.inr (.inl (.inr (by simp[n.o]))))
 ·have A:F=g:=by simpa[Value.ownBlock]using j
  right;omega
theorem aq.Qz(h:aq w R)(l:R.vm=Y)(m:R.au=[])(o:Obj):aq (((w.setCell ⟨R.sb,8,Y⟩ (.map (V (w.heap.size+1)))).alloc o).alloc (.map #[] 0)) {R with vm:=V (w.heap.size+1)}:=by
 have i:=bG h;have b:=h.nodup;have n:aa (·=R.sb) w (((w.setCell ⟨R.sb,8,Y⟩ (.map (V (w.heap.size+1)))).alloc o).alloc (.map #[] 0)):=((aa.setCell w ⟨R.sb,8,Y⟩ _).al _).al _;have c:∀k∈R.aP++R.bp,¬k=R.sb:=by intro k a e;subst e;simp only[aF.fp,ey]at b;exact b.1 a
 have f:=h.af.ai n (λk a=>c k (fQ _ a));refine⟨?_,⟨f.cy,f.eA,f.dc,f.cU⟩,⟨h.cg.cW.ai n (λg s=>c g (fx _ (by simp[aF.bp,s]))),?_,?_⟩,?_⟩
 ·show(World.alloc _ _).heap[R.sb]?=_;rw[Below.heap_alloc _ _ _ (by simp;have:=h.lt;omega),Below.heap_alloc _ _ _ (by simp;have:=h.lt;omega),ak h.top];simp[bo]
 ·show aQ _ _ _ _;rw[m];have:=aQ.made O ((w.setCell ⟨R.sb,8,Y⟩ (.map (V (w.heap.size+1)))).alloc o);simpa using this
 ·intro p j;have d:p∈R.au:=j;rw[m]at d;cases d
 ·have e:aF.fp {R with vm:=V (w.heap.size+1)}=R.sb::(R.aP++(R.kv.ownBlock.toList++[w.heap.size+1]++R.au.flatMap (λp=>p.2.sl.ownBlock.toList))):=rfl;have q:R.fp=R.sb::(R.aP++(R.kv.ownBlock.toList++R.au.flatMap (λp=>p.2.sl.ownBlock.toList))):=by simp[aF.fp,aF.bp,l]
  have j:(aF.fp {R with vm:=V (w.heap.size+1)}).Perm ((w.heap.size+1)::R.fp):=by rw[e,q];refine List.Perm.trans ?_ (List.Perm.swap _ _ _);refine List.Perm.cons _ ?_;rw[mE,List.singleton_append];refine List.Perm.trans (Sy _ Sf) ?_;exact Sf
  rw[j.nodup_iff];exact ey.2 ⟨λr=>by have:=i _ r;omega,b⟩
theorem Ih(R:aF)(a:ByteArray)(v:bF)(w:ab)(h:aq w R)(r:R.vm=Y)(N:bR R.keys a=false)(a9:bh R.keys)(hl:R.keys.length<1000000000000):ba prog 175 #[X (V ⟨R.sb,7,Y⟩),O a,.agg #[Z U v.aG,O v.value,ao v.aO]] w λe w'=>e=ay (bt #[])/\jK R a v w w':=by
 have z:R.au=[]:=by have:=h.cg.ed;rw[r]at this;exact Sl.1 this
 have c5:w.cell? ⟨R.sb,7,Y⟩=V R.kv:=h.cell 7;have c6:w.cell? ⟨R.sb,8,Y⟩=V (.map Y):=(h.cell 8).trans (by rw[<-r];rfl);have b6:w.frozen? ⟨R.sb,8,Y⟩=false:=h.frozen 8;have d6:=h.lt;have c9:R.sb<w.heap.size+1:=by omega
 have d0:R.sb<w.heap.size+1+1:=by omega
 have d7:=@run_makeMap prog;have S0:aq (((w.setCell ⟨R.sb,8,Y⟩ (.map (V (w.heap.size+1)))).alloc (I #[Z U v.aG,O v.value,ao v.aO] 144)).alloc (.map #[] 0)) {R with vm:=V (w.heap.size+1)}:=h.Qz r z (I #[Z U v.aG,O v.value,ao v.aO] 144);have a2:QS (aa (·=R.sb) w (((w.setCell ⟨R.sb,8,Y⟩ (.map (V (w.heap.size+1)))).alloc (I #[Z U v.aG,O v.value,ao v.aO] 144)).alloc (.map #[] 0))):=((aa.setCell w ⟨R.sb,8,Y⟩ _).al _).al _;have hM:aQ O (((w.setCell ⟨R.sb,8,Y⟩ (.map (V (w.heap.size+1)))).alloc (I #[Z U v.aG,O v.value,ao v.aO] 144)).alloc (.map #[] 0)) (w.heap.size+1) (R.au.map λp=>(p.1,p.2.sl)):=S0.cg.ed;have K:(((w.setCell ⟨R.sb,8,Y⟩ (.map (V (w.heap.size+1)))).alloc (I #[Z U v.aG,O v.value,ao v.aO] 144)).alloc (.map #[] 0)).cell? ⟨R.sb,7,Y⟩=V R.kv:=S0.cell 7;have d4:=Jf;have d1:∀(x:Bool) (w:ab),(Op.unary .not (ao x)).run prog w=.ok (ao (!x)) w:=λ_ _=>rfl;have b3:QS (aD (R.au.map λp=>(p.1,p.2.sl)) a=Y):=by unfold QS;rw[z];rfl
 have o:=je R.kv R.keys a (((w.setCell ⟨R.sb,8,Y⟩ (.map (V (w.heap.size+1)))).alloc (I #[Z U v.aG,O v.value,ao v.aO] 144)).alloc (.map #[] 0)) S0.cg.cW a9 (by omega);rw[N]at o;have d3:QS (aq w R):=h;have HX:QS (aD R.au a=Y):=by unfold QS;rw[z];rfl
 have b1:QS (bR R.keys a=false):=N;have b5:QS (R.vm=Y):=r;have HM:QS (aQ O (((w.setCell ⟨R.sb,8,Y⟩ (.map (V (w.heap.size+1)))).alloc (I #[Z U v.aG,O v.value,ao v.aO] 144)).alloc (.map #[] 0)) (w.heap.size+1) (R.au.map λp=>(p.1,p.2.sl))):=hM;have F:QS (aq (((w.setCell ⟨R.sb,8,Y⟩ (.map (V (w.heap.size+1)))).alloc (I #[Z U v.aG,O v.value,ao v.aO] 144)).alloc (.map #[] 0)) {R with vm:=V (w.heap.size+1)}):=S0;have HL:QS (R.keys.length<1000000000000):=hl;have a1:QS (∀n,aa n_ (((w.setCell ⟨R.sb,8,Y⟩ (.map (V (w.heap.size+1)))).alloc (I #[Z U v.aG,O v.value,ao v.aO] 144)).alloc (.map #[] 0)) n->ba prog 206 #[R.kv,Z U (below R.keys a),J (V ⟨n.heap.size,0,Y⟩) 1 1] (n.alloc (I #[O a] 9)) λe w'=>∃g a4,e=ay (J (V ⟨g,0,Y⟩) (R.keys.length+1) a4)/\Row w' 9 1 (J (V ⟨g,0,Y⟩) (R.keys.length+1) a4) (R.keys.length+1) ((eK R.keys (below R.keys a) a).map O)/\aa (λk=>R.kv.ownBlock=V k) (n.alloc (I #[O a] 9)) w'/\(R.kv.ownBlock=V g\/(n.alloc (I #[O a] 9)).heap.size<=g)):=λn d=>
  wE R.kv R.keys (below R.keys a) a n.heap.size _ ((S0.cg.cW.ai d k_).ai (aa.alloc n_ _ _) k_) (iF _ _) hl (az n _) (λe=>by have:=h.cg.cW.lt e;have:=d.size;simp at this;omega)
 have l:QS (∀g,R.kv.ownBlock=V g->g≠R.sb/\g<w.heap.size):=λg j=>by have hn:=((eX R a).nodup_iff).1 h.nodup;rw[lf]at hn;have hd:=hn.2.2;exact⟨λe=>hd g (by simp[j]) g (fx _ (by simp[aF.bY,e])) rfl,h.cg.cW.lt j⟩
 obtain⟨i0,hi,b0,c4,c7⟩:=info_parts Tryz.lW;clear h N r hM hl a9 z S0;go_enter func175,ntmps175;go_wp2_with(first
  |(at_lookup;go_must(refine bC _ rfl _ _ 57 rfl 9 135 bJ Tryz.underlying57 Tryz.underlying9 _ (Tryz.cJ _) (w.heap.size+1) rfl a rfl _ HM.o ?_;rw[b3.o];simp only[yg,Rk]))
  |(go_at_call 170;go_must(refine o.mono ?_;rintro e n ⟨rfl,d⟩;have D:aa (·=R.sb) w n:=a2.o.tr d (λ_ h=>h.elim);have d5:n.cell? ⟨R.sb,7,Y⟩=V R.kv:=d.cell (p:=⟨R.sb,7,Y⟩) K id;have b7:R.sb<n.heap.size:=by(have:=D.size;omega)))
  |(go_at_call 206;go_must(refine(a1.o n d).mono ?_;rintro e u ⟨c,b,rfl,a8,Q,a7⟩;have f:aa (λk=>R.kv.ownBlock=V k) (((w.setCell ⟨R.sb,8,Y⟩ (.map (V (w.heap.size+1)))).alloc (I #[Z U v.aG,O v.value,ao v.aO] 144)).alloc (.map #[] 0)) u:=((d.mono (λ_ _ h=>h.elim)).al _).tr Q i_;have f5:u.cell? ⟨R.sb,7,Y⟩=V R.kv:=f.cell (p:=⟨R.sb,7,Y⟩) K (λe=>(l.o _ e).1 rfl);have b8:u.frozen? ⟨R.sb,7,Y⟩=false:=by(rw[f.frozen (p:=⟨R.sb,7,Y⟩) (by simp;omega) (λe=>(l.o _ e).1 rfl)];exact F.o.frozen 7))))
 have s:(((w.setCell ⟨R.sb,8,Y⟩ (.map (V (w.heap.size+1)))).alloc (I #[Z U v.aG,O v.value,ao v.aO] 144)).alloc (.map #[] 0)).heap.size=w.heap.size+2:=by simp
 have q:c≠R.sb/\c≠w.heap.size+1/\(R.kv.ownBlock=V c\/w.heap.size+2<c):=by
  rcases a7 with e|e
  ·have:=(l.o c e).2;exact⟨(l.o c e).1,by omega,.inl e⟩
  ·have L:=d.size;rw[s]at L;simp at e;exact⟨by omega,by omega,.inr (by omega)⟩
 have a6:u.heap[R.sb]?=V (I (bo {R with vm:=V (w.heap.size+1)}) 61 (0,0)):=(f.block R.sb (by rw[s];omega) (λe=>(l.o _ e).1 rfl)).trans F.o.top;have a5:u.heap[w.heap.size]?=V (I #[Z U v.aG,O v.value,ao v.aO] 144 (0,0)):=by rw[f.block w.heap.size (by rw[s];omega) (λe=>by have:=(l.o _ e).2;omega),Below.heap_alloc _ _ _ (by simp)];have:=az (w.setCell ⟨R.sb,8,Y⟩ (.map (V (w.heap.size+1)))) (I #[Z U v.aG,O v.value,ao v.aO] 144);simpa using this
 have K3:aa (λk=>R.kv.ownBlock=V k\/k=R.sb) (((w.setCell ⟨R.sb,8,Y⟩ (.map (V (w.heap.size+1)))).alloc (I #[Z U v.aG,O v.value,ao v.aO] 144)).alloc (.map #[] 0)) (u.setCell ⟨R.sb,7,Y⟩ (J (V ⟨c,0,Y⟩) (R.keys.length+1) b)):=(f.mono (λ_ _ h=>.inl h)).st (.inr (.inr rfl)) _;have c1:∀g,(J (V ⟨c,0,Y⟩) (R.keys.length+1) b).ownBlock=V g->R.kv.ownBlock=V g\/w.heap.size<=g:=λg j=>by
  have m:c=g:=by simpa[Value.ownBlock]using j
  subst m;rcases q.2.2 with e|e
  ·exact .inl e
  ·right;omega
 have H:=F.o.GX (kv':=J (V ⟨c,0,Y⟩) (R.keys.length+1) b) (keys':=eK R.keys (below R.keys a) a) K3 (λk _ hs=>hs.elim (λe=>.inr e) (λe=>.inl e)) ((ak (i:=7) a6 _).trans (by simp[bo])) (by
  have c2:=a8.ai (aa.setCell u ⟨R.sb,7,Y⟩ (J (V ⟨c,0,Y⟩) (R.keys.length+1) b)) (λg j=>by
   have m:c=g:=by simpa[Value.ownBlock]using j
   exactλe=>q.1 (m.trans e))
  rw[iw _ _ _ (iF _ _)];exact c2) (λg j=>by
   have m:c=g:=by simpa[Value.ownBlock]using j
   subst m;rcases q.2.2 with e|e
   ·exact .inl e
   ·right;rw[s];omega)
 have B3:(u.setCell ⟨R.sb,7,Y⟩ (J (V ⟨c,0,Y⟩) (R.keys.length+1) b)).heap[w.heap.size]?=V (I #[Z U v.aG,O v.value,ao v.aO] 144 (0,0)):=(Below.heap_setCell _ _ _ _ (by simp only;omega)).trans a5;have z3:w.heap.size+3<=(u.setCell ⟨R.sb,7,Y⟩ (J (V ⟨c,0,Y⟩) (R.keys.length+1) b)).heap.size:=by have L:=d.size;have h2:=Q.size;rw[s]at L;simp at h2;simp;omega
 have G3:∀g,(J (V ⟨c,0,Y⟩) (R.keys.length+1) b).ownBlock=V g->g<(u.setCell ⟨R.sb,7,Y⟩ (J (V ⟨c,0,Y⟩) (R.keys.length+1) b)).heap.size:=λg j=>H.cg.cW.lt j;clear a6 a5 d D f Q a8 d5 b7 f5 b8 o K;generalize u.setCell ⟨R.sb,7,Y⟩ (J (V ⟨c,0,Y⟩) (R.keys.length+1) b)=W3 at K3 H B3 z3 G3;have p0:W3.cell? ⟨w.heap.size,0,Y⟩=V (Z U v.aG):=ae B3 0;have p1:W3.cell? ⟨w.heap.size,1,Y⟩=V (O v.value):=ae B3 1;have p2:W3.cell? ⟨w.heap.size,2,Y⟩=V (ao v.aO):=ae B3 2;have p6:W3.cell? ⟨R.sb,8,Y⟩=V (.map (V (w.heap.size+1))):=H.cell 8;have c8:R.sb<W3.heap.size:=H.lt;have G:QS (aq W3 {R with kv:=(J (V ⟨c,0,Y⟩) (R.keys.length+1) b),keys:=eK R.keys (below R.keys a) a,vm:=V (w.heap.size+1)}):=H;have b2:QS (aa (λk=>R.kv.ownBlock=V k\/k=R.sb) (((w.setCell ⟨R.sb,8,Y⟩ (.map (V (w.heap.size+1)))).alloc (I #[Z U v.aG,O v.value,ao v.aO] 144)).alloc (.map #[] 0)) W3):=K3;have b4:QS (aQ O W3 (w.heap.size+1) (R.au.map λp=>(p.1,p.2.sl))):=H.cg.ed;have a3:QS (R.sb≠w.heap.size+1):=by unfold QS;omega
 clear H K3 B3 c5 c6 b6;go_region_held3(λW=>W.cell? ⟨R.sb,8,Y⟩=V (.map (V (w.heap.size+1)))/\W.cell? ⟨w.heap.size,0,Y⟩=V (Z U v.aG)/\W.cell? ⟨w.heap.size,1,Y⟩=V (O v.value)/\W.cell? ⟨w.heap.size,2,Y⟩=V (ao v.aO)) (go_keep) ((refine bV _ (by rfl) _ _ 135 (by rfl) 144 i0 _ 3 32 Tryz.underlying135 hi b0 c4 c7 (by rfl) (J Y 0 0) 0 [] (by rfl) (Row.nil _ _ _) ⟨W3.heap.size,0,Y⟩ 1 1 v.cells (by rfl) (by rfl) (yO W3 v) (by simp[bF.cells,Value.oneCell']) (by unfold maxLen;omega) (by omega) ?_;intro v' w5 T M _ c0;obtain⟨C,B,rfl,a0⟩:=T.one;have S:aa n_ W3 w5:=(((aa.refl n_ W3).al _).dr).tr (aa.grown M) (λ_ h=>by simp[Value.ownBlock]at h);obtain⟨r0,r1,r2,r3⟩:=Mb S id id p6 p0 p1 p2;obtain⟨ob,d2,b9⟩:=(b4.o.ai S id).update (P:=prog) (t:=57) bJ Tryz.underlying57 Tryz.underlying9 a (J (V ⟨C,0,Y⟩) 1 B);obtain⟨t0,t1,t2,t3⟩:=Fh (aa.setBlock w5 (w.heap.size+1) ob) a3.o (by omega) r0 r1 r2 r3));go_end0;have m:C=W3.heap.size+1:=by
  rcases c0 with h|h
  ·simp[Value.ownBlock]at h
  ·simpa[Value.ownBlock]using h
 have c3:aw R.au a=[]:=by unfold aw;rw[HX.o];rfl
 have A:aa (λk=>k=w.heap.size+1) W3 (Go.ChangeMaps.setBlock w5 (w.heap.size+1) ob):=(S.mono (λ_ _ h=>h.elim)).tr (aa.setBlock w5 (w.heap.size+1) ob) i_;refine⟨rfl,(J (V ⟨c,0,Y⟩) (R.keys.length+1) b),w.heap.size+1,J (V ⟨C,0,Y⟩) 1 B,?_,?_,c1,λg j=>?_,.inr ⟨b5.o,by omega⟩⟩
 ·rw[el (by rw[b1.o];simp),c3,uE];refine G.o.added a A (λk _ hs=>.inr (.inr (.inl (by rw[hs])))) ?_ ?_ b9 ?_ (λg j=>.inl j) (λg j=>?_) (.inl rfl) ?_
  ·exact(A.block R.sb c8 a3.o).trans G.o.top
  ·refine G.o.cg.cW.ai A (λg j e=>?_);have y:c=g:=by simpa[Value.ownBlock]using j
   exact q.2.1 (y.trans e)
  ·have:=a0.ai (aa.setBlock w5 (w.heap.size+1) ob) (λg j e=>by
    have y:C=g:=by simpa[Value.ownBlock]using j
    have e':g=w.heap.size+1:=e;omega)
   simpa using this
  ·have y:C=g:=by simpa[Value.ownBlock]using j
   right;omega
  ·have L:c≠C:=by have:=G3 c rfl;omega
   have h2:C≠w.heap.size+1:=by omega
   simp[Value.ownBlock,L,h2,q.2.1]
 ·have L:aa (·∈R.fp) w (((w.setCell ⟨R.sb,8,Y⟩ (.map (V (w.heap.size+1)))).alloc (I #[Z U v.aG,O v.value,ao v.aO] 144)).alloc (.map #[] 0)):=a2.o.mono (λk _ h=>by have h':k=R.sb:=h;simp[aF.fp,h']);have h2:aa (·∈R.fp) w W3:=L.trans b2.o (λk hk h=>by
   rcases h with h|rfl
   ·simp only[aF.fp,aF.bp,cT,cQ];exact .inr (.inr (.inl (.inl (by simp[h]))))
   ·simp[aF.fp])
  exact h2.trans A (λk hk h=>by have h':k=w.heap.size+1:=h;omega)
 ·have y:C=g:=by simpa[Value.ownBlock]using j
  right;omega
theorem BL(g:bh a)(h:x∉a):(∀k∈a.take (below a x),de k x=true)/\(∀k∈a.drop (below a x),de x k=true):=by
 constructor
 ·intro k d;obtain⟨j,c,rfl⟩:=Rr d;simp only[js]at c;have b:j<a.length:=by omega
  rw[To];exact rA b (by omega)
 ·intro k d;obtain⟨j,c,rfl⟩:=Rr d;simp only[mR]at c;have b:below a x+j<a.length:=by omega
  have f:=ry g (x:=x) b (Nat.le_add_right _ _);rw[SZ];cases h2:de x a[below a x+j]with
  |true=>rfl
  |false=>
   have e:=nh f h2;exact absurd (e▸nE b) h
theorem uw{d:List ByteArray}(i:bh d)(j:x∉d):bh (eK d (below d x) x):=by
 obtain⟨f,g⟩:=BL i j;have c:bh (d.take (below d x)++d.drop (below d x)):=by rw[RJ];exact i
 unfold bh at c⊢;rw[Rg]at c;unfold eK;rw[Rg];refine⟨c.1,BS.2 ⟨g,c.2.1⟩,?_⟩;intro a h b e;rcases cT.1 e with rfl|e
 ·exact f a h
 ·exact eO (f a h) (g b e)
theorem zn{i:Nat}{k:ByteArray}:k∈eK a i x↔k=x\/k∈a:=by
 unfold eK;rw[cQ,cT];constructor
 ·rintro(h|h|h)
  ·exact .inr (Sd h)
  ·exact .inl h
  ·exact .inr (Ts h)
 ·rintro(h|h)
  ·exact .inr (.inl h)
  ·have:k∈a.take i++a.drop i:=by rw[RJ];exact h
   rcases cQ.1 this with h|h
   ·exact .inl h
   ·exact .inr (.inr h)
theorem wO(a:List ByteArray)(i:Nat)(x k:ByteArray):bR (eK a i x) k=(decide (x=k)||bR a k):=by
 rw[QT,bA,zn];simp only[TF,tT,bA];constructor
 ·rintro(h|h)
  ·exact .inl h.symm
  ·exact .inr h
 ·rintro(h|h)
  ·exact .inl h.symm
  ·exact .inr h
structure il(R:aF):Prop where
 bP:bh R.keys
 keys:∀k,bR R.keys k=(aD R.au k).isSome
 filled:∀p∈R.au,p.2.aE≠[]
structure jx(R:aF)(ks:List ByteArray)(eW:ByteArray->bF)(R':aF):Prop where
 same:R'={R with kv:=R'.kv,keys:=R'.keys,vm:=R'.vm,au:=R'.au}
 aE:∀k,aw R'.au k=if bR ks k then aw R.au k++[eW k]else aw R.au k
 tied:il R'
theorem jx.refl(h:il R)(a:ByteArray->bF):jx R [] a R:=⟨rfl,λk=>by simp[bR],h⟩
theorem rj(a:List (ByteArray×sM))(b k:ByteArray)(x:sM):aw (put a b x) k=if b=k then x.aE else aw a k:=by unfold aw;rw[ke];split<;>simp_all
theorem tw(a:List ByteArray)(x k:ByteArray):bR (a++[x]) k=(bR a k||decide (x=k)):=by simp[bR]
theorem jx.snoc{c:aF}{j:List ByteArray}{d:ByteArray->bF}{a:ByteArray}(h:jx R j d c)(r:aq w c)(n:bR j a=false)(l f:ax)(b:Nat):jx R (j++[a]) d {c with kv:=l,keys:=(if bR c.keys a then c.keys else eK c.keys (below c.keys a) a),vm:=V b,au:=put c.au a ⟨f,aw c.au a++[d a]⟩}:=by
 have q:=h.same;refine⟨?_,λk=>?_,⟨?_,λk=>?_,λp o=>?_⟩⟩
 ·conv=>lhs;rw[q]
 ·show aw (put c.au a ⟨f,aw c.au a++[d a]⟩) k=_;rw[rj,tw];by_cases e:a=k
  ·subst e;rw[fy rfl];simp only[decide_true,Bool.or_true,Rz];rw[h.aE,n];simp
  ·rw[el e,h.aE];simp[e]
 ·show bh (if bR c.keys a then c.keys else eK c.keys (below c.keys a) a);split
  ·exact h.tied.bP
  ·rename_i g;exact uw h.tied.bP (λs=>g ((bA _ _).2 s))
 ·show bR (if bR c.keys a then c.keys else eK c.keys (below c.keys a) a) k=(aD (put c.au a _) k).isSome;rw[ke];by_cases e:a=k
  ·subst e;rw[fy rfl];split
   ·rename_i g;simpa using g
   ·rw[wO];simp
  ·rw[el e,<-h.tied.keys k];split
   ·rfl
   ·rw[wO];simp[e]
 ·have i:p∈put c.au a ⟨f,aw c.au a++[d a]⟩:=o;rcases jl (dv r.cg) i with rfl|⟨m,_⟩
  ·simp
  ·exact h.tied.filled p m
theorem Nx(R:aF)(a:ByteArray)(v:bF)(w:ab)(h:aq w R)(t:il R)(f:R.keys.length<1000000000000)(g:(aw R.au a).length<1000000000000):ba prog 175 #[X (V ⟨R.sb,7,Y⟩),O a,.agg #[Z U v.aG,O v.value,ao v.aO]] w λe i=>e=ay (bt #[])/\jK R a v w i:=by
 cases hx:aD R.au a with
 |some x=>
  have c:bR R.keys a=true:=by rw[t.keys,hx];rfl
  have d:aw R.au a=x.aE:=by unfold aw;rw[hx];rfl
  exact Ij R a v x w h hx c (by rw[<-d];exact g)
 |none=>
  have c:bR R.keys a=false:=by rw[t.keys,hx];rfl
  cases hvm:R.vm with
  |some b=>exact Ny R a v b w h hvm hx c t.bP f
  |none=>exact Ih R a v w h hvm c t.bP f
def ve(a:Nat):ax:=.func (.func 176) #[] #[X (V ⟨a,0,Y⟩),X (V ⟨a+1,0,Y⟩)]
structure fX(w:ab)(R:aF)(cb:Nat)(fs0:List ax)(C0:List Nat)(v:ax)(ks:List ByteArray)(eW:ByteArray->bF)(j:Nat)(wr:ab)(Rj:aF)(kbs C:List Nat):Prop where
 store:aq wr Rj
 jr:jx R (ks.take j) eW Rj
 uH:iP wr cb (fs0++kbs.map ve) C
 len:kbs.length=j
 boxes:∀i (h:i<kbs.length),wr.heap[kbs[i]]?=V (I #[X (V ⟨R.sb,0,Y⟩)] 32 (0,0))/\wr.heap[kbs[i]+1]?=V (I #[O (ks.getD i ByteArray.empty)] 9 (0,0))
 row:Row wr 9 1 v ks.length (ks.map O)
 keeps:aa (λk=>k∈R.fp\/k∈C0) w wr
 GP:∀k∈C,k∉Rj.fp
 Nr:∀k∈Rj.fp,k∈R.fp\/w.heap.size<=k
 cE:∀k∈C,k∈C0\/w.heap.size<=k
 apart:∀k,(v.ownBlock=V k\/k∈kbs\/∃b∈kbs,k=b+1)->k∉Rj.fp/\k∉C
 yu:Rj.keys.length<=R.keys.length+j
theorem jx.sb{a:aF}{c:List ByteArray}{b:ByteArray->bF}(h:jx R c b a):a.sb=R.sb/\a.af=R.af/\a.now=R.now:=by have:=h.same;exact⟨by rw[this],by rw[this],by rw[this]⟩
theorem La{sl':ax}{vs':List bF}{n:Nat}(d:∀g,kv'.ownBlock=V g->R.kv.ownBlock=V g\/n<=g)(e:∀g,sl'.ownBlock=V g->(iz R.au key).ownBlock=V g\/n<=g)(f:R.vm=V b\/R.vm=Y/\n<=b):∀k∈aF.fp {R with kv:=kv',keys:=keys',vm:=V b,au:=put R.au key ⟨sl',vs'⟩},k∈R.fp\/n<=k:=by
 intro k c;rw[(eX {R with kv:=kv',keys:=keys',vm:=V b,au:=put R.au key ⟨sl',vs'⟩} key).mem_iff]at c;rw[(eX R key).mem_iff];have i:iz (put R.au key ⟨sl',vs'⟩) key=sl':=by unfold iz;rw[mu];rfl
 have a:k∈kv'.ownBlock.toList++((iz (put R.au key ⟨sl',vs'⟩) key).ownBlock.toList++(R.sb::(R.aP++([b]++(del (put R.au key ⟨sl',vs'⟩) key).flatMap (λp=>p.2.sl.ownBlock.toList))))):=c;rw[i,rN]at a;simp only[cQ,cT,RQ,TP,Rx,aF.bY]at a⊢;rcases a with h|h|h|h|h|h
 ·rcases d k h with h|h
  ·exact .inl (.inl h)
  ·exact .inr h
 ·rcases e k h with h|h
  ·exact .inl (.inr (.inl h))
  ·exact .inr h
 ·exact .inl (.inr (.inr (.inl h)))
 ·exact .inl (.inr (.inr (.inr (.inl h))))
 ·subst h;rcases f with h|⟨_,h⟩
  ·exact .inl (.inr (.inr (.inr (.inr (.inl h)))))
  ·exact .inr h
 ·exact .inl (.inr (.inr (.inr (.inr (.inr h)))))
theorem fX.next{wr L wb wc:ab}{f:aF}{cb:Nat}{r:List ax}{C0 C C' d:List Nat}{H:List ByteArray}{t:ByteArray->bF}{j q:Nat}(h:fX w R cb r C0 v H t j wr f d C)(hj:j<H.length)(A:key=H.getD j ByteArray.empty)(Q:bR (H.take j) key=false)(M:aa n_ wr L)(hq:wr.heap.size<=q)(a7:L.heap[q]?=V (I #[X (V ⟨R.sb,0,Y⟩)] 32 (0,0)))(a6:L.heap[q+1]?=V (I #[O key] 9 (0,0)))(hz:q+1<L.heap.size)(N:jK f key (t key) L wb)(o:aa (·∈C) wb wc)(a0:iP wc cb (r++d.map ve++[ve q]) C')(u:∀k∈C',k∈C\/wb.heap.size<=k):∃W,fX w R cb r C0 v H t (j+1) wc W (d++[q]) C':=by
 obtain⟨S,b,T,hS,p,c1,c2,c3⟩:=N;have b0:w.heap.size<=wr.heap.size:=h.keeps.size;have a9:=p.size;have x:=h.uH.lt;have s:=bG h.store;have a8:∀k,v.ownBlock=V k->k<wr.heap.size:=λk a=>h.row.lt a;have F:∀i (K:i<d.length),d[i]+1<wr.heap.size:=λi K=>(QY.1 (h.boxes i K).2).1;have l:=La (R:=f) (key:=key) (keys':=(if bR f.keys key then f.keys else eK f.keys (below f.keys key) key)) (vs':=aw f.au key++[t key]) c1 c2 c3;generalize hR':({f with kv:=S,keys:=(if bR f.keys key then f.keys else eK f.keys (below f.keys key) key),vm:=V b,au:=put f.au key ⟨T,aw f.au key++[t key]⟩}:aF)=W at hS l;have z:∀k∈C,k∉W.fp:=λk a m=>by
  rcases l k m with c|c
  ·exact h.GP k a c
  ·have:=x k a;omega
 have G:H.take (j+1)=H.take j++[key]:=by rw[eu hj,A];simp[hj]
 have D:∀k,k<wr.heap.size->k∉f.fp->k∉C->wc.heap[k]?=wr.heap[k]?:=λk a c h2=>
  ((o.block k (by omega) h2).trans (p.block k (by omega) c)).trans (M.block k a id)
 have B:∀k,k∈d->k+1<wr.heap.size:=λk a=>by obtain⟨i,K,rfl⟩:=Rr a;exact F i K
 refine⟨W,hS.ai o (λk a n=>z k n a),?_,?_,by simp[h.len],?_,?_,?_,?_,?_,?_,?_,?_⟩
 ·rw[G,<-hR'];exact h.jr.snoc h.store Q S T b
 ·have e:r++(d++[q]).map ve=r++d.map ve++[ve q]:=by simp
  rw[e];exact a0
 ·intro i K;simp only[hQ,fN,pa]at K;by_cases y:i<d.length
  ·rw[Tc y];obtain⟨a1,a2⟩:=h.apart d[i] (.inr (.inl (nE _)));obtain⟨a3,a4⟩:=h.apart (d[i]+1) (.inr (.inr ⟨_,nE _,rfl⟩));rw[D _ (by have:=F i y;omega) a1 a2,D _ (F i y) a3 a4];exact h.boxes i y
  ·have a5:i=d.length:=by omega
   subst a5;rw[List.getElem_append_right (eb _)];simp only[RZ,Ru];refine⟨?_,?_⟩
   ·rw[o.block _ (by omega) (λn=>by have:=x _ n;omega),p.block _ (by omega) (λn=>by have:=s _ n;omega),a7]
   ·rw[o.block _ (by omega) (λn=>by have:=x _ n;omega),p.block _ hz (λn=>by have:=s _ n;omega),a6,h.len,A]
 ·refine((h.row.ai M k_).ai p (λg hg m=>?_)).ai o (λg hg m=>?_)
  ·exact(h.apart g (.inl hg)).1 m
  ·exact(h.apart g (.inl hg)).2 m
 ·refine((h.keeps.tr M (λ_ h=>h.elim)).trans p (λk a m=>?_)).trans o (λk a m=>?_)
  ·rcases h.Nr k m with c|c
   ·exact .inl c
   ·omega
  ·rcases h.cE k m with c|c
   ·exact .inr c
   ·omega
 ·intro k a m;rcases u k a with c|c
  ·exact z k c m
  ·have:=bG hS k m;omega
 ·intro k a;rcases l k a with c|c
  ·exact h.Nr k c
  ·right;omega
 ·intro k a;rcases u k a with c|c
  ·exact h.cE k c
  ·right;omega
 ·intro k a;have P:k<wr.heap.size/\k∉f.fp/\k∉C\/wr.heap.size<=k/\k<L.heap.size:=by
   rcases a with a|a|⟨b,a,rfl⟩
   ·exact .inl ⟨a8 k a,h.apart _ (.inl a)⟩
   ·rcases cQ.1 a with a|a
    ·exact .inl ⟨by have:=B k a;omega,h.apart _ (.inr (.inl a))⟩
    ·have e:k=q:=by simpa using a
     exact .inr ⟨by omega,by omega⟩
   ·rcases cQ.1 a with a|a
    ·exact .inl ⟨B b a,h.apart _ (.inr (.inr ⟨b,a,rfl⟩))⟩
    ·have e:b=q:=by simpa using a
     exact .inr ⟨by omega,by omega⟩
  rcases P with⟨l1,l2,l3⟩|⟨l1,l2⟩
  ·refine⟨λm=>?_,λn=>?_⟩
   ·rcases l k m with c|c
    ·exact l2 c
    ·have:=M.size;omega
   ·rcases u k n with c|c
    ·exact l3 c
    ·have:=M.size;omega
  ·refine⟨λm=>?_,λn=>?_⟩
   ·rcases l _ m with c|c
    ·have:=s _ c;omega
    ·omega
   ·rcases u _ n with c|c
    ·have:=x _ c;omega
    ·omega
 ·have P:=h.yu;rw[<-hR'];show(if bR f.keys key then f.keys else eK f.keys (below f.keys key) key).length<=_;split
  ·omega
  ·rw[iw _ _ _ (iF _ _)];omega
end Go.Proofs.YtjbkfdeldlajhaaGreatDoor
