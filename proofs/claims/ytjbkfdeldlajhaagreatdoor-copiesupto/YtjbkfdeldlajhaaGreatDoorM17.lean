import Derived.Test.YtjbkfdeldlajhaaGreatDoorM16
import Derived.Deep.DeepCutAuto
import Derived.Deep.CutBlock
set_option linter.unusedSimpArgs false
namespace Go.Proofs.YtjbkfdeldlajhaaGreatDoor
set_option maxRecDepth 100000
set_option maxHeartbeats 4000000
open Go.RowKit Go.Shelf Go.Proofs.Tryz
open Option renaming none->Y,some->V
open Go.Value renaming int->Z,slice->J,pointer->X,tuple->bt,string->O,bool->ao
open Go.IntKind renaming i64->U
open Go renaming World->ab,Value->ax,Calls->ba,TypeId->cI
open Go.Ending renaming returned->ay
open Go.Obj renaming cells->I
variable{w W b a c:ab}{e:cI}{v x y z:ax}{g i:Nat}
theorem aY.rows{f:ab}{R:aM}(h:aY w R)(e:cI)(i:aa (λk=>k=R.b\/bD w k e) w f):(e≠80->Row f 80 5 R.va R.all.length (R.all.flatMap bq.cells))/\(e≠128->Row f 128 3 R.vw R.af.length (R.af.flatMap iY.cells))/\(e≠70->∀x∈R.af,fE f x.sl x.ar)/\(e≠3->Row f 3 1 R.vp R.aN.length (R.aN.flatMap kh))/\(e≠193->Row f 193 3 R.vc R.aC.length (R.aC.flatMap ko.cells))/\(e≠9->∀x∈R.aC,pd x.uG f x.sl x.pieces/\∀k∈x.uG,bD f k 9):=by
 have p:bD w R.b 40:=⟨_,h.top⟩
 have b:∀{g:Nat} {t:cI},bD w g t->t≠40->e≠t->¬(g=R.b\/bD w g e):=λn m j=>by
  rintro(rfl|o)
  ·exact n.ne m p
  ·exact o.ne j n
 refine⟨λa=>h.all.ai i (λg d=>b (h.all.aR d) (by decide) a),λa=>h.af.ai i (λg d=>b (h.af.aR d) (by decide) a),λa x l=>Row.ai (h.ar x l) i (λg d=>b (Row.aR (h.ar x l) d) (by decide) a),
  λa=>h.aN.ai i (λg d=>b (h.aN.aR d) (by decide) a),λa=>h.aC.ai i (λg d=>b (h.aC.aR d) (by decide) a),λa x l=>?_⟩
 obtain⟨m,j⟩:=h.pieces x l;exact⟨m.ai (λk c=>i.block k (j k c).lt (b (j k c) (by decide) a)),λk c=>(j k c).ai i (b (j k c) (by decide) a)⟩
def gv(R a:aM)(w b:ab):Prop:=aY b a/\a.b=R.b/\aa (·∈R.fp) w b/\∀k∈a.fp,k∈R.fp\/w.heap.size<=k
theorem aY.same{R:aM}(h:aY w R)(a:aa n_ w b):gv R R w b:=⟨h.ai a k_,rfl,a.mono (λ_ _ h=>h.elim),λ_ a=>.inl a⟩
theorem Tryz.wD:(prog.info? 128).map (λi=>(i.zero,i.size,i.bytes))=V (V (.agg #[Z U 0,Z U 0,J Y 0 0]),3,40):=by kernel_rfl
theorem aY.Dq{R:aM}{l:List iY}(h:aY w R)(f:aa n_ w W)(q:Row W 128 3 v l.length (l.flatMap iY.cells))(b:∀g,v.ownBlock=V g->w.heap.size<=g)(n:∀x∈l,x∈R.af):gv R {R with vw:=v,af:=l} w (W.setCell ⟨R.b,3,Y⟩ v):=by
 have p:=(f.block _ h.blt id).trans h.top;have i:aa (λk=>k=R.b\/bD w k 40) w (W.setCell ⟨R.b,3,Y⟩ v):=(f.mono (λ_ _ h=>h.elim)).tr (aa.setCell _ _ _) (λ_ h=>.inl h);obtain⟨r,z,s,t,u,y⟩:=h.rows _ i;have j:∀g,v.ownBlock=V g->g≠R.b:=λg d e=>by have:=b g d;have:=h.blt;omega
 refine⟨⟨?_,r (by decide),q.ai (aa.setCell _ _ _) (λg d e=>j g d e),λx m=>s (by decide) x (n x m),t (by decide),u (by decide),y (by decide)⟩,rfl,(f.mono (λ_ _ h=>h.elim)).tr (aa.setCell _ _ _) (λk e=>by have o:k=R.b:=e;rw[o];simp[aM.fp]),λk c=>?_⟩
 ·rw[ak p];rfl
 ·simp only[aM.fp,cT,cQ,ns,Rx]at c⊢;rcases c with a|((((a|a)|a)|a)|⟨x,m,a⟩)|a
  ·exact .inl (.inl a)
  ·exact .inl (.inr (.inl (.inl (.inl (.inl (.inl a))))))
  ·exact .inr (b k a)
  ·exact .inl (.inr (.inl (.inl (.inl (.inr a)))))
  ·exact .inl (.inr (.inl (.inl (.inr a))))
  ·exact .inl (.inr (.inl (.inr ⟨x,n x m,a⟩)))
  ·exact .inl (.inr (.inr a))
theorem Mu(R:aM)(k:Nat)(w:ab)(h:aY w R)(hl:R.af.length<100000000000)(hk:k<R.af.length):ba prog 78 #[X (V ⟨R.b,0,Y⟩),Z U k] w λe w'=>e=ay (bt #[])/\∃v,gv R {R with vw:=v,af:=R.af.eraseIdx k} w w':=by
 obtain⟨oa,ca,s,hm,sa⟩:=h.af.form;obtain⟨g,rfl⟩:=sa (by omega);have c3:w.cell? ⟨R.b,3,Y⟩=V (J (V ⟨g,0,Y⟩) R.af.length ca):=(h.cell 3).trans (by rw[<-s];rfl);have f:=h.af;rw[s]at f;have HR:=E f;have HH:=E h;have a1:=h.blt;have c:∀x∈R.af,∃a n q,x.sl=J a n q:=λx F=>by obtain⟨a,q,e,_⟩:=Row.form (h.ar x F);exact⟨a,_,q,e⟩
 have t:=E c;obtain⟨i0,hi,N,P,Q⟩:=info_parts Tryz.wD;unfold maxLen at hm;obtain⟨l,r⟩:∃l,l=R.af:=⟨_,rfl⟩
 have u:=E r;rw[<-r]at c3 HR t hm hl hk;have HL:=E hl;clear h s r sa f c;have fz:∀W,aa n_ w W->W.frozen? ⟨R.b,3,Y⟩=false:=λW hW=>(HH.o.ai hW k_).frozen 3;have G:=E fz;clear fz;go_enter func78,ntmps78;go_wp2_with fail;go_loopw [4,5] (λv i wr=>∃j:Nat,j<=l.length/\i=Z U j/\Made 128 3 iY.cells w wr v ((l.take j).eraseIdx k)) (λ_ i _=>l.length-(intOf i).toNat)
 case atStart=>exact⟨0,eL _,rfl,Made.nil (aa.refl _ _)⟩
 case round=>
  obtain⟨j,hj,rfl,D⟩:=hrel;obtain⟨ob,cb,rfl,-,-⟩:=D.row.form;have d3:=D.keep.cell (p:=⟨R.b,3,Y⟩) c3 id;have o:=E D;clear D;by_cases M:j<l.length
  ·obtain⟨y,B⟩:∃y,l[j]?=V y:=⟨l[j],ec M⟩
   obtain⟨e0,e1,K⟩:=pX HR.o o.o.keep B;obtain⟨S,yn,yc,C⟩:=t.o y (hH B);have m:=eo B;have a3:((l.take j).eraseIdx k).length<=j:=mA (Te _ _) (wj _ _);have A:(l.take j).length=j:=by rw[js];omega
   by_cases L:j=k
   ·subst L;have H:QS ((l.take (j+1)).eraseIdx j=(l.take j).eraseIdx j):=by show _=_;rw[m,Si (by omega),A,RO (l:=l.take j) (by omega)];simp
    clear m B;go_wp2;exact⟨⟨j+1,by omega,by go_num,by rw[H.o];exact o.o⟩,by simp only[intOf];omega⟩
   ·have H:QS ((l.take (j+1)).eraseIdx k=(l.take j).eraseIdx k++[y]):=by
     show _=_;rw[m];rcases Nat.lt_or_ge k j with h1|h1
     ·rw[List.eraseIdx_append_of_lt_length (by omega)]
     ·rw[Si (by omega),A,RO (l:=l.take j) (by omega),RO (by simp;omega)]
    have a2:((j:Int)==(k:Int))=false:=mK.2 (by omega);generalize (l.take j).eraseIdx k=out at*;obtain⟨yi,T,a4,a0⟩:=y;simp only at C e0 e1 K;subst C;clear m B;go_wp2_with(first|(at_builtin;go_must(refine aL _ rfl _ _ 36 rfl 128 i0 _ 3 40 Tryz.underlying36 hi N P Q rfl (J ob out.length cb) out.length _ rfl (o.o.row.ai (aa.alloc n_ wr _) k_) ⟨wr.heap.size,0,Y⟩ 1 1 [Z U yi,Z U T,J S yn yc] rfl rfl (br _ #[Z U yi,Z U T,J S yn yc] _) (by simp[Value.oneCell']) (by have:=HL.o;unfold maxLen;omega) (by have:=HL.o;omega) ?_;intro v' w1 b d _ z;obtain⟨g1,c1,rfl⟩:=b.succ;have HN:=E (o.o.push (a:=⟨yi,T,J S yn yc,a0⟩) (aa.alloc n_ wr _) b d z);clear b d z))|fail)
    exact⟨⟨j+1,by omega,by go_num,by rw[H.o];exact HN.o.slice (by simp)⟩,by simp only[intOf];omega⟩
  ·have e:l.eraseIdx k=(l.take j).eraseIdx k:=by rw[ep (by omega)]
   have HE:=E e;have f3:=G.o wr o.o.keep;clear e;go_wp2;go_end0;refine⟨rfl,J ob ((l.take j).eraseIdx k).length cb,?_⟩;have:=HH.o.Dq o.o.keep o.o.row o.o.own (λx F=>by rw[<-HE.o,u.o]at F;exact RX F)
   have K:(l.take j).eraseIdx k=R.af.eraseIdx k:=by rw[<-HE.o,u.o]
   rw[K]at this⊢;exact this
def kn(e:cI)(R a:aM)(w b:ab):Prop:=aY b a/\a.b=R.b/\aa (λk=>k=R.b\/(k∈R.fp/\bD w k e)) w b/\∀k∈a.fp,k∈R.fp\/w.heap.size<=k
theorem kn.after{R a:aM}(h:kn e R a w b):gv R a w b:=
 ⟨h.1,h.2.1,h.2.2.1.mono (λk _ c=>by rcases c with rfl|h;exact(by simp[aM.fp]);exact h.1),h.2.2.2⟩
theorem kn.trans{R f g:aM}{m n:ab}(h:kn e R f w m)(s:kn e f g m n):kn e R g w n:=by
 obtain⟨y,i,b,j⟩:=h;obtain⟨o,p,q,r⟩:=s;refine⟨o,p.trans i,b.trans q (λk d x=>?_),λk d=>?_⟩
 ·rcases x with rfl|⟨a,t⟩
  ·exact .inl i
  ·have u:=(j k a).resolve_right (by omega);refine RF λl=>l (.inr ⟨u,?_⟩);obtain⟨c,v⟩:=t;exact⟨c,(b.block k d l).symm.trans v⟩
 ·rcases r k d with a|a
  ·exact j k a
  ·exact .inr (mA b.size a)
theorem aY.ch{R:aM}(h:aY w R)(a:aa n_ w b):kn e R R w b:=⟨h.ai a k_,rfl,a.mono (λ_ _ h=>h.elim),λ_ a=>.inl a⟩
theorem gv.trans{R b c:aM}{g i:ab}(h:gv R b w g)(p:gv b c g i):gv R c w i:=by
 obtain⟨r,j,d,e⟩:=h;obtain⟨l,m,n,o⟩:=p;refine⟨l,m.trans j,d.trans n (λk f q=>(e k q).resolve_right (by omega)),λk f=>?_⟩;rcases o k f with a|a
 ·exact e k a
 ·exact .inr (mA d.size a)
theorem gv.from{R b:aM}{d e:ab}(h:gv R b d e)(c:aa n_ w d):gv R b w e:=
 ⟨h.1,h.2.1,(c.mono (T:=(·∈R.fp)) (λ_ _ h=>h.elim)).trans h.2.2.1 k_,λk a=>(h.2.2.2 k a).imp id (λf=>mA c.size f)⟩
theorem kn.from{R a:aM}(h:kn e R a b c)(d:aY w R)(f:aa n_ w b):kn e R a w c:=(d.ch f).trans h
theorem aY.CV{R:aM}{l:List iY}{n:Int}(h:aY w R)(m:aa (λk=>k=R.b\/R.vw.ownBlock=V k) w W)(p:W.heap[R.b]?=V (I (aM.top {R with vw:=v,af:=l,aJ:=n}) 40 (0,0)))(o:Row W 128 3 v l.length (l.flatMap iY.cells))(f:∀g,v.ownBlock=V g->R.vw.ownBlock=V g\/w.heap.size<=g)(j:∀x∈l,x∈R.af\/(fE W x.sl x.ar/\∀g,x.sl.ownBlock=V g->w.heap.size<=g)):kn 128 R {R with vw:=v,af:=l,aJ:=n} w W:=by
 have e:aa (λk=>k=R.b\/(k∈R.fp/\bD w k 128)) w W:=m.mono (λk _ c=>by
  rcases c with rfl|c
  ·exact .inl rfl
  ·exact .inr ⟨R.Mn c,h.af.aR c⟩)
 obtain⟨q,y,r,s,t,u⟩:=h.rows 128 (e.mono (λk _ c=>c.imp id And.right));refine⟨⟨p,q (by decide),o,λx i=>?_,s (by decide),t (by decide),u (by decide)⟩,rfl,e,λk d=>?_⟩
 ·rcases j x i with a|a
  ·exact r (by decide) x a
  ·exact a.1
 ·simp only[aM.fp,cT,cQ,ns,Rx]at d⊢;rcases d with a|((((a|a)|a)|a)|⟨x,i,a⟩)|a
  ·exact .inl (.inl a)
  ·exact .inl (.inr (.inl (.inl (.inl (.inl (.inl a))))))
  ·rcases f k a with b|b
   ·exact .inl (.inr (.inl (.inl (.inl (.inl (.inr b))))))
   ·exact .inr b
  ·exact .inl (.inr (.inl (.inl (.inl (.inr a)))))
  ·exact .inl (.inr (.inl (.inl (.inr a))))
  ·rcases j x i with b|b
   ·exact .inl (.inr (.inl (.inr ⟨x,b,a⟩)))
   ·exact .inr (b.2 k a)
  ·exact .inl (.inr (.inr a))
def aM.opened(R:aM)(v:ax):aM:={R with vw:=v,af:=R.af++[⟨R.aJ+1,R.now,J Y 0 0,[]⟩],aJ:=R.aJ+1}
theorem BH(R:aM)(w:ab)(h:aY w R)(i:8<=R.af.length):ba prog 19 #[X (V ⟨R.b,0,Y⟩)] w λe f=>e=ay (bt #[Z U 0,Z U 3])/\f=w:=by
 obtain⟨d,b,a,j,-⟩:=h.af.form;have g:w.cell? ⟨R.b,3,Y⟩=V (J d R.af.length b):=(h.cell 3).trans (by rw[<-a];rfl);have c:(8:Int)<=R.af.length:=by omega
 clear h a;go_enter func19,ntmps19;go_wp2;go_ret2;exact⟨rfl,rfl⟩
theorem Es(R:aM)(w:ab)(h:aY w R)(M:R.af.length<8)(hb:0<=R.aJ/\R.aJ<1000000000000):ba prog 19 #[X (V ⟨R.b,0,Y⟩)] w λe w'=>e=ay (bt #[Z U (R.aJ+1),Z U 0])/\∃v,kn 128 R (R.opened v) w w':=by
 obtain⟨r,q,l,hm,-⟩:=h.af.form;have S:w.cell? ⟨R.b,3,Y⟩=V (J r R.af.length q):=(h.cell 3).trans (by rw[<-l];rfl);have c4:w.cell? ⟨R.b,4,Y⟩=V (Z U R.aJ):=h.cell 4;have Q:w.cell? ⟨R.b,1,Y⟩=V (Z U R.now):=h.cell 1;have f4:=h.frozen 4;have f3:=h.frozen 3;have a1:(R.af.length:Int)<8:=by omega
 obtain⟨i0,hi,B,C,D⟩:=info_parts Tryz.wD;have P:=E h;have u:=E l;have F:=E M;have K:=h.blt;have a:QS ((w.setCell ⟨R.b,4,Y⟩ (Z U (R.aJ+1))).heap[R.b]?=V (I (R.top.setIfInBounds 4 (Z U (R.aJ+1))) 40 (0,0))):=ak h.top _;have n:QS (Row (w.setCell ⟨R.b,4,Y⟩ (Z U (R.aJ+1))) 128 3 (J r R.af.length q) R.af.length (R.af.flatMap iY.cells)):=by rw[<-l];exact h.af.ai (aa.setCell _ _ _) (λg j e=>(h.af.aR j).ne (by decide) (show bD w g 40 from⟨_,(show g=R.b from e)▸h.top⟩))
 clear h l M;go_enter func19,ntmps19;go_wp2_with fail;have s:QS (aa (λk=>k=R.b) w (w.setCell ⟨R.b,4,Y⟩ (Z U (R.aJ+1)))):=E (aa.setCell w ⟨R.b,4,Y⟩ _);generalize w.setCell ⟨R.b,4,Y⟩ (Z U (R.aJ+1))=w1 at*;have d3:w1.cell? ⟨R.b,3,Y⟩=V (J r R.af.length q):=(ae a.o 3).trans (by rw[<-u.o];rfl);have d4:w1.cell? ⟨R.b,4,Y⟩=V (Z U (R.aJ+1)):=ae a.o 4;have d1:w1.cell? ⟨R.b,1,Y⟩=V (Z U R.now):=ae a.o 1;have e3:w1.frozen? ⟨R.b,3,Y⟩=false:=aj a.o 3;have b:∀W m:ab,aa n_ w1 W->W.grownBy m (J r R.af.length q).ownBlock->m.heap[R.b]?=V (I (R.top.setIfInBounds 4 (Z U (R.aJ+1))) 40 (0,0)):=λW m L j=>by have o:R.b<w1.heap.size:=(lg a.o);rw[(aa.grown j).block R.b (kz o L.size) (λe=>(n.o.aR e.symm).ne (e':=40) (by decide) ⟨_,a.o⟩),L.block _ o id];exact a.o
 have y:=E b;clear b S c4 Q f4 f3;have a0:R.b<w1.heap.size:=(lg a.o);have p3:=(aa.alloc n_ w1 (I #[Z U (R.aJ+1),Z U R.now,J Y 0 0] 128)).cell (p:=⟨R.b,3,Y⟩) d3 id;go_region_law((refine bV _ (by rfl) _ _ 36 (by rfl) 128 i0 _ 3 40 Tryz.underlying36 hi B C D (by rfl) (J r R.af.length q) R.af.length _ (by rfl) (n.o.ai ((aa.refl n_ w1).al _).dr k_) ⟨w1.heap.size,0,Y⟩ 1 1 [Z U (R.aJ+1),Z U R.now,J Y 0 0] (by rfl) (by rfl) (br w1 #[Z U (R.aJ+1),Z U R.now,J Y 0 0] _) (by simp[Value.oneCell']) (by have:=F.o;unfold maxLen;omega) (by have:=F.o;omega) ?_;intro v' m d c _ t;obtain⟨A,i,rfl⟩:=d.succ;have f:=E (y.o _ _ ((aa.refl n_ w1).al _).dr c);have z:=E (((aa.refl n_ w1).al _).dr.mono (T:=λk=>V k=Value.ownBlock (J r R.af.length q)) (λ_ _ h=>h.elim)|>.tr (aa.grown c) i_);have G:=E d;have N:=E t;have q3:m.cell? ⟨R.b,3,Y⟩=V (J r R.af.length q):=(ae f.o 3).trans (by rw[<-u.o];rfl);have q4:m.cell? ⟨R.b,4,Y⟩=V (Z U (R.aJ+1)):=ae f.o 4;have q1:m.cell? ⟨R.b,1,Y⟩=V (Z U R.now):=ae f.o 1;have r3:m.frozen? ⟨R.b,3,Y⟩=false:=aj f.o 3;clear d c t));all_goals
  go_wp2;go_ret2;refine⟨rfl,_,aY.CV (v:=J (V ⟨A,0,Y⟩) (R.af.length+1) i) P.o ?_ ?_ ?_ ?_ ?_⟩
  ·exact(((s.o.mono (T:=λk=>k=R.b\/R.vw.ownBlock=V k) (λ_ _ h=>.inl h)).tr z.o (λk h=>.inr (by rw[u.o];exact h.symm))).tr (aa.setCell _ _ _) (λk h=>.inl h))
  ·rw[ak f.o];rfl
  ·have hr:Row (m.setCell ⟨R.b,3,Y⟩ (J (V ⟨A,0,Y⟩) (R.af.length+1) i)) 128 3 (J (V ⟨A,0,Y⟩) (R.af.length+1) i) (R.af.length+1) _:=G.o.ai (aa.setCell _ _ _) (λg j e=>(G.o.aR j).ne (e':=40) (by decide) ⟨_,(show g=R.b from e)▸f.o⟩);simpa[iY.cells]using hr
  ·intro g j;rcases N.o with e|e
   ·left;rw[u.o,<-e];exact j
   ·right;rw[j]at e;have H:g=w1.heap.size+1:=by simpa using e
    have:=s.o.size;omega
  ·intro x hx;rcases cQ.1 hx with h|h
   ·exact .inl h
   ·have:x=⟨R.aJ+1,R.now,J Y 0 0,[]⟩:=by simpa using h
    subst this;exact .inr ⟨Row.nil _ _ _,λg j=>by simp[Value.ownBlock]at j⟩
theorem Bu(R:aM)(b:Int)(w:ab)(h:aY w R)(g:R.af.length<100000000000)(c:fc R.af b=Y):ba prog 32 #[X (V ⟨R.b,0,Y⟩),Z U b] w λe f=>e=ay (Z U 1)/\f=w:=by
 have a:=fj R b w h (by omega);rw[c]at a;have d:=E a;clear a h c;go_enter func32,ntmps32;go_wp2_with(go_at_call 68;go_must(refine(d.o).mono ?_;rintro e i ⟨rfl,rfl⟩;simp only[rZ]))
 go_ret;exact⟨rfl,rfl⟩
theorem Bv(R:aM)(c:Int)(k:Nat)(w:ab)(h:aY w R)(i:R.af.length<100000000000)(b:fc R.af c=V k):ba prog 32 #[X (V ⟨R.b,0,Y⟩),Z U c] w λe n=>e=ay (Z U 0)/\∃v,gv R {R with vw:=v,af:=R.af.eraseIdx k} w n:=by
 have a:=fj R c w h (by omega);rw[b]at a;have d:=E a;obtain⟨x,m,-⟩:=lk b;have g:=(ej.1 m).1;have f:=E (Mu R k w h i g);have j:¬((k:Int)<0):=by omega
 clear a h b;go_enter func32,ntmps32;go_wp2_with(first|(go_at_call 68;go_must(refine(d.o).mono ?_;rintro e o ⟨rfl,rfl⟩;simp only[rZ]))|(go_at_call 78;go_must(refine(f.o).mono ?_;rintro e p ⟨rfl,l⟩)))
 go_ret;exact⟨rfl,l⟩
theorem Tryz.LY:(prog.info? 80).map (λi=>(i.zero,i.size,i.bytes))=V (V (.agg #[Z U 0,O ⟨#[]⟩,O ⟨#[]⟩,ao false,ao false]),5,56):=by kernel_rfl
theorem aY.MH{R:aM}{l:List bq}(h:aY w R)(i:aa (λk=>k=R.b\/R.va.ownBlock=V k) w W)(m:W.heap[R.b]?=V (I (aM.top {R with va:=v,all:=l}) 40 (0,0)))(j:Row W 80 5 v l.length (l.flatMap bq.cells))(e:∀g,v.ownBlock=V g->R.va.ownBlock=V g\/w.heap.size<=g):kn 80 R {R with va:=v,all:=l} w W:=by
 have d:aa (λk=>k=R.b\/(k∈R.fp/\bD w k 80)) w W:=i.mono (λk _ b=>by
  rcases b with rfl|b
  ·exact .inl rfl
  ·exact .inr ⟨R.Ml b,h.all.aR b⟩)
 obtain⟨s,n,o,p,q,r⟩:=h.rows 80 (d.mono (λk _ b=>b.imp id And.right));refine⟨⟨m,j,n (by decide),o (by decide),p (by decide),q (by decide),r (by decide)⟩,rfl,d,λk c=>?_⟩;simp only[aM.fp,cT,cQ,ns,Rx]at c⊢;rcases c with a|((((a|a)|a)|a)|a)|a
 ·exact .inl (.inl a)
 ·rcases e k a with f|f
  ·exact .inl (.inr (.inl (.inl (.inl (.inl (.inl f))))))
  ·exact .inr f
 ·exact .inl (.inr (.inl (.inl (.inl (.inl (.inr a))))))
 ·exact .inl (.inr (.inl (.inl (.inl (.inr a)))))
 ·exact .inl (.inr (.inl (.inl (.inr a))))
 ·exact .inl (.inr (.inl (.inr a)))
 ·exact .inl (.inr (.inr a))
def eU(l:List an)(s:Int):List bq:=l.map λr=>⟨s,r,false⟩
def aM.plus(R:aM)(v:ax)(l:List bq):aM:={R with va:=v,all:=R.all++l}
theorem aY.MF{R:aM}{n:Option Addr}{a:Nat}{x:bq}(h:aY w R)(m:R.va=J n R.all.length i)(d:aa n_ w W)(q:Row c 80 5 (J (V ⟨g,0,Y⟩) (R.all.length+1) a) (R.all.length+1) (R.all.flatMap bq.cells++x.cells))(p:W.grownBy c (J n R.all.length i).ownBlock)(r:(J (V ⟨g,0,Y⟩) (R.all.length+1) a).ownBlock=(J n R.all.length i).ownBlock\/(J (V ⟨g,0,Y⟩) (R.all.length+1) a).ownBlock=V W.heap.size):c.heap[R.b]?=V (I R.top 40 (0,0))/\kn 80 R (R.plus (J (V ⟨g,0,Y⟩) (R.all.length+1) a) [x]) w (c.setCell ⟨R.b,0,Y⟩ (J (V ⟨g,0,Y⟩) (R.all.length+1) a)):=by
 have l:bD w R.b 40:=⟨_,h.top⟩
 have b:c.heap[R.b]?=V (I R.top 40 (0,0)):=by rw[(aa.grown p).block R.b (kz h.blt d.size) (λe=>l.ne (e':=80) (by decide) (h.all.aR (by rw[m];exact e.symm))),d.block _ h.blt id];exact h.top
 refine⟨b,aY.MH h ?_ ?_ ?_ ?_⟩
 ·exact(((d.mono (T:=λk=>k=R.b\/R.va.ownBlock=V k) (λ_ _ h=>h.elim)).tr (aa.grown p) (λk h=>.inr (by rw[m];exact h.symm))).tr (aa.setCell _ _ _) (λk h=>.inl h))
 ·rw[ak b];rfl
 ·have j:=q.ai (aa.setCell c ⟨R.b,0,Y⟩ (J (V ⟨g,0,Y⟩) (R.all.length+1) a)) (λk f e=>(q.aR f).ne (e':=40) (by decide) ⟨_,(show k=R.b from e)▸b⟩);simpa using j
 ·intro k f;rcases r with e|e
  ·left;rw[m,<-e];exact f
  ·right;rw[f]at e;have o:k=W.heap.size:=by simpa using e
   have:=d.size;omega
theorem wX(R:aM)(v:ax)(l:List an)(s:Int)(w:ab)(h:aY w R)(Q:fE w v l)(hl:R.all.length+l.length<1000000000000):ba prog 80 #[X (V ⟨R.b,0,Y⟩),v,Z U s] w λe w'=>e=ay (bt #[])/\∃o,kn 80 R (R.plus o (eU l s)) w w':=by
 obtain⟨oa,ca,rfl,hm,sa⟩:=Row.form Q;obtain⟨i0,hi,S,T,W⟩:=info_parts Tryz.LY;have HR:=E Q;have SA:=E sa;have HL:=E hl;have HH:=E h;have a3:(l.length:Int)<1000000000000:=by omega
 unfold maxLen at hm;clear Q sa h hl;go_enter func80,ntmps80;go_wp2_with fail;go_loopw [6] (λi wr=>∃(j:Nat) (o:ax),j<=l.length/\i=Z U j/\kn 80 R (R.plus o (eU (l.take j) s)) w wr) (λi _=>l.length-(intOf i).toNat)
 case atStart=>exact⟨0,R.va,eL _,rfl,by have:=HH.o.ch (e:=80) (aa.refl _ w);simpa[aM.plus,eU]using this⟩
 case round=>
  obtain⟨j,o,hj,rfl,hC⟩:=hrel;have q:=E hC;clear hC;by_cases P:j<l.length
  ·obtain⟨g,rfl⟩:=SA.o (by omega);obtain⟨x,C⟩:∃x,l[j]?=V x:=⟨l[j],ec P⟩
   have B:fE wr (J (V ⟨g,0,Y⟩) l.length ca) l:=HR.o.ai q.o.2.2.1 (λk hk N=>by
    have ht:=Row.aR HR.o hk;rcases N with rfl|N
    ·exact ht.ne (e':=40) (by decide) ⟨_,HH.o.top⟩
    ·exact ht.ne (by decide) N.2)
   obtain⟨e0,e1,e2⟩:=ot B (aa.refl _ _) C;have u:QS (eU (l.take (j+1)) s=eU (l.take j) s++[⟨s,x,false⟩]):=by show _=_;rw[eo C];simp[eU]
   obtain⟨m,c⟩:∃m,m=R.plus o (eU (l.take j) s):=⟨_,rfl⟩
   have HP:QS (∀D,m.plus D [⟨s,x,false⟩]=R.plus D (eU (l.take (j+1)) s)):=by intro D;rw[u.o,c];simp[aM.plus]
   have r:QS (m.all.length<1000000000000):=by show _<_;have:=HL.o;have h2:=wj j l;rw[c];simp only[aM.plus,eU,hQ,hO];omega
   rw[<-c]at q;have d:m.b=R.b:=by rw[c];rfl
   clear c u;have b:=q.o.1;obtain⟨ob,M,n,a4,-⟩:=b.all.form;have c0:wr.cell? ⟨R.b,0,Y⟩=V (J ob m.all.length M):=by rw[<-d];exact(b.cell 0).trans (by rw[<-n];rfl)
   have a0:R.b<wr.heap.size:=by rw[<-d];exact b.blt
   have a2:g<wr.heap.size:=World.block_lt_of_cell? _ _ e0;have t:=E (n▸b.all);have y:=E n;have L:=E b;have a1:=E C;clear b n B C;obtain⟨G,H,F⟩:=x;simp only at e0 e1 e2;have p0:=(aa.alloc n_ wr (I #[Z U s,O G,O H,ao F,ao false] 80)).cell (p:=⟨R.b,0,Y⟩) c0 id;go_wp2_with fail;go_region_law((refine bV _ (by rfl) _ _ 35 (by rfl) 80 i0 _ 5 56 Tryz.underlying35 hi S T W (by rfl) (J ob m.all.length M) m.all.length _ (by rfl) (t.o.ai ((aa.refl n_ wr).al _).dr k_) ⟨wr.heap.size,0,Y⟩ 1 1 [Z U s,O G,O H,ao F,ao false] (by rfl) (by rfl) (br wr #[Z U s,O G,O H,ao F,ao false] _) (by simp[Value.oneCell']) (by have:=r.o;unfold maxLen;omega) (by have:=r.o;omega) ?_;intro D w2 a f _ A;obtain⟨g',z,rfl⟩:=a.succ;have K:=E (L.o.MF (x:=⟨s,⟨G,H,F⟩,false⟩) y.o ((aa.refl n_ wr).al _).dr a f A);have r3:w2.frozen? ⟨R.b,0,Y⟩=false:=(by rw[<-d];exact aj K.o.1 0);have q3:w2.cell? ⟨R.b,0,Y⟩=V (J ob m.all.length M):=(by rw[<-d];exact(ae K.o.1 0).trans (by rw[<-y.o];rfl));clear a f A));all_goals
    go_wp2;refine⟨⟨j+1,J (V ⟨g',0,Y⟩) (m.all.length+1) z,by omega,by go_num,?_⟩,by simp only[intOf];omega⟩;rw[<-HP.o,<-d];exact q.o.trans K.o.2
  ·have HE:QS (eU (l.take j) s=eU l s):=by show _=_;rw[ep (by omega)]
   go_wp2;go_end0;exact⟨rfl,o,by rw[<-HE.o];exact q.o⟩
theorem Row.setAt{a n b:Nat}{j:List ax}(h:Row w e a (J (V ⟨g,0,Y⟩) n b) n j)(i:Nat)(u:ax):Row (w.setCell ⟨g,i,Y⟩ u) e a (J (V ⟨g,0,Y⟩) n b) n (j.set i u):=by
 refine⟨by simpa using h.1,?_⟩;rcases h.2 with⟨k,_⟩|⟨r,d,c,f,q,l,m,o,p⟩
 ·simp at k
 ·simp at f;obtain⟨rfl,rfl⟩:=f;refine .inr ⟨g,b,c.setIfInBounds i u,rfl,ak q u,l,m,by simpa using o,?_⟩;rw[<-p];simp[List.take_set]
theorem rT{α:Type}{f:α->List ax}{b:Nat}(c:∀a,(f a).length=b)(u:ax)(y:α):∀(l:List α) (k r:Nat) (x:α),l[k]?=V x->r<b->f y=(f x).set r u->(l.flatMap f).set (k*b+r) u=(l.set k y).flatMap f
 |[],k,r,x,hk,_,_=>by simp at hk
 |a::l,0,r,x,hk,hr,hy=>by
  simp at hk;subst hk
  have:r<(f a).length:=by rw[c];exact hr
  simp[hy,List.set_append_left _ _ this]
 |a::l,k+1,r,x,hk,hr,hy=>by
  have ih:=rT c u y l k r x (by simpa using hk) hr hy;have e:(k+1)*b+r=(f a).length+(k*b+r):=by rw[c,Sq,Nat.one_mul];omega
  rw[Rh,e,List.set_append_right _ _ (by omega),Nat.add_sub_cancel_left,ih];simp
def iY.wrote(x:iY)(v:ax)(l:List an):iY:=⟨x.id,x.aI,v,l⟩
def aM.wrote(R:aM)(k:Nat)(x:iY)(v:ax)(l:List an):aM:={R with af:=R.af.set k (x.wrote v l)}
theorem aY.Kl{R:aM}{k:Nat}{x:iY}{l:List an}(h:aY w R)(m:aa n_ w W)(p:R.vw=J (V ⟨g,0,Y⟩) R.af.length i)(z:R.af[k]?=V x)(u:fE W v l)(a:∀q,v.ownBlock=V q->w.heap.size<=q):kn 128 R (R.wrote k x v l) w (W.setCell ⟨g,k*3+2,Y⟩ v):=by
 have s:R.vw.ownBlock=V g:=by rw[p];rfl
 have c:bD w g 128:=h.af.aR s;have j:R.b≠g:=λe=>c.ne (e':=40) (by decide) (e▸⟨_,h.top⟩);have r:=(m.block _ h.blt id).trans h.top;have b:=(h.af.ai m k_)
 rw[p]at b;have d:=b.setAt (k*3+2) v;rw[rT iY.len v (x.wrote v l) R.af k 2 x z (by omega) rfl]at d;refine aY.CV (n:=R.aJ) (v:=R.vw) h ?_ ?_ ?_ (λq o=>.inl o) (λy A=>?_)
 ·exact(m.mono (T:=λk=>k=R.b\/R.vw.ownBlock=V k) (λ_ _ h=>h.elim)).tr (aa.setCell _ _ _) (λk e=>.inr (by rw[s];exact Rc V (show g=k from e.symm)))
 ·have:(W.setCell ⟨g,k*3+2,Y⟩ v).heap[R.b]?=W.heap[R.b]?:=(aa.setCell W ⟨g,k*3+2,Y⟩ v).block R.b (lg r) (λe=>j e)
  rw[this];exact r
 ·rw[p];simpa using d
 ·rcases St A with f|f
  ·exact .inl f
  ·subst f;refine .inr ⟨Row.ai u (aa.setCell _ _ _) (λq o e=>?_),a⟩;have t:q=g:=e;have f:=a q o;have B:=c.lt;omega
theorem DV(R:aM)(b:Int)(r:an)(w:ab)(h:aY w R)(k:R.af.length<100000000000)(c:fc R.af b=Y):ba prog 27 #[X (V ⟨R.b,0,Y⟩),Z U b,r.val] w λe j=>e=ay (Z U 1)/\aa n_ w j:=by
 obtain⟨g,i,f⟩:=r;simp only[an.val];have a:=fj R b (w.alloc (I #[O g,O i,ao f] 70)) (h.ai (aa.alloc n_ _ _) k_) (by omega);rw[c]at a;have d:=E a;clear a h c;go_enter func27,ntmps27;go_wp2_with(go_at_call 68;go_must(refine(d.o).mono ?_;rintro e l ⟨rfl,rfl⟩;simp only[rZ]))
 go_ret;exact⟨rfl,aa.alloc _ _ _⟩
theorem DW(R:aM)(l:Int)(r:an)(k:Nat)(w:ab)(h:aY w R)(v:R.af.length<100000000000)(n:fc R.af l=V k)(i:r.key.size<=maxLen)(j:r.value.size<=maxLen)(m:(dw r.key&&fM r.value)=false):ba prog 27 #[X (V ⟨R.b,0,Y⟩),Z U l,r.val] w λe c=>e=ay (Z U 2)/\aa n_ w c:=by
 obtain⟨a,b,u⟩:=r;simp only[an.val];simp only at i j m;have g:=fj R l (w.alloc (I #[O a,O b,ao u] 70)) (h.ai (aa.alloc n_ _ _) k_) (by omega);rw[n]at g;have p:=E g;have d:QS (∀W,ba prog 69 #[O a] W λe c=>e=ay (ao (dw a))/\c=W):=λW=>nY a W i;have f:QS (∀W,ba prog 73 #[O b] W λe c=>e=ay (ao (fM b))/\c=W):=λW=>nZ b W j;have t:¬((k:Int)<0):=by omega
 clear g h n i j;generalize dw a=q at*;generalize fM b=s at*;go_enter func27,ntmps27;cases q<;>cases s
 case true.true=>simp at m
 all_goals
  go_wp2_with(first|(go_at_call 68;go_must(refine(p.o).mono ?_;rintro e o ⟨rfl,rfl⟩;simp only[rZ]))|(go_at_call 69;go_must(refine(d.o _).mono ?_;rintro e o ⟨rfl,rfl⟩))|(go_at_call 73;go_must(refine(f.o _).mono ?_;rintro e o ⟨rfl,rfl⟩)))
  go_ret;exact⟨rfl,aa.alloc _ _ _⟩
theorem Qa{o:Obj}(h:aa n_ ((w.alloc o).alloc (I #[x,y,z] e)).drew a):a.heap[w.heap.size+1]?=V (I #[x,y,z] e (0,0)):=by rw[h.block (w.heap.size+1) (by show _<((w.alloc o).alloc _).heap.size;simp) id];have:=az (w.alloc o) (I #[x,y,z] e);show((w.alloc o).alloc (I #[x,y,z] e)).heap[w.heap.size+1]?=_;simpa using this
theorem DU(R:aM)(id:Int)(r:an)(k:Nat)(x:iY)(w:ab)(h:aY w R)(hl:R.af.length<100000000000)(hf:fc R.af id=V k)(M:R.af[k]?=V x)(S:r.key.size<=maxLen)(hv:r.value.size<=maxLen)(u:dw r.key=true)(v:fM r.value=true)(hw:x.ar.length<1000000000000)(T:cV x.ar r.key=Y)(P:30<=x.ar.length):ba prog 27 #[X (V ⟨R.b,0,Y⟩),Z U id,r.val] w λe B=>e=ay (Z U 3)/\aa n_ w B:=by
 obtain⟨o,C,rg⟩:=r;simp only[an.val];simp only at S hv u v T;obtain⟨s,z⟩:∃s,s=w.alloc (I #[O o,O C,ao rg] 70):=⟨_,rfl⟩
 have y:aa n_ w s:=z▸aa.alloc _ _ _;have q:aY s R:=h.ai y k_;have n:s.heap[w.heap.size]?=V (I #[O o,O C,ao rg] 70 (0,0)):=z▸az w _;have Q:=fj R id s q (by omega);rw[hf]at Q;have HC:=E Q;have F:QS (∀W,ba prog 69 #[O o] W λe B=>e=ay (ao (dw o))/\B=W):=λW=>nY o W S;have G:QS (∀W,ba prog 73 #[O C] W λe B=>e=ay (ao (fM C))/\B=W):=λW=>nZ C W hv;rw[u]at F;rw[v]at G;have a3:¬((k:Int)<0):=by omega
 have A:x∈R.af:=hH M;have a2:k<R.af.length:=(ej.1 M).1;obtain⟨oa,N,d,hm,sa⟩:=q.af.form;obtain⟨g,rfl⟩:=sa (by omega);have HH:=E q;have a0:=E d;have l:=q.af;rw[d]at l;obtain⟨m,j,b,-,-⟩:=Row.form (q.ar x A);have a:∀W,aa n_ s W->W.cell? ⟨R.b,3,Y⟩=V (J (V ⟨g,0,Y⟩) R.af.length N)/\W.cell? ⟨g,k*3+2,Y⟩=V (J m x.ar.length j)/\W.cell? ⟨w.heap.size,0,Y⟩=V (O o)/\W.cell? ⟨w.heap.size,1,Y⟩=V (O C)/\W.cell? ⟨w.heap.size,2,Y⟩=V (ao rg):=λW t=>by refine⟨t.cell (p:=⟨R.b,3,Y⟩) ((q.cell 3).trans (by rw[<-d];rfl)) (λh=>h),?_,t.cell (p:=⟨w.heap.size,0,Y⟩) (ae n 0) (λh=>h),t.cell (p:=⟨w.heap.size,1,Y⟩) (ae n 1) (λh=>h),t.cell (p:=⟨w.heap.size,2,Y⟩) (ae n 2) (λh=>h)⟩;obtain⟨d0,d1,K⟩:=pX l t M;rw[b]at K;exact K
 have f:QS (∀W,aa n_ s W->ba prog 70 #[J m x.ar.length j,O o] W λe B=>e=ay (bt #[an.zero.val,ao false])/\aa n_ W B):=λW t=>by have:=rX (J m x.ar.length j) x.ar o W (b▸Row.ai (q.ar x A) t k_) hw;rw[T]at this;exact this
 simp only[an.val,an.zero]at f;have c3:w.cell? ⟨R.b,3,Y⟩=V (J (V ⟨g,0,Y⟩) R.af.length N):=(h.cell 3).trans (by rw[<-d];rfl);have c2:w.cell? ⟨g,k*3+2,Y⟩=V (J m x.ar.length j):=by have L:=h.af;rw[d]at L;obtain⟨d0,d1,K⟩:=pX L (aa.refl _ w) M;rw[b]at K;exact K
 have l1:R.b<w.heap.size:=World.block_lt_of_cell? _ _ c3;have l2:g<w.heap.size:=World.block_lt_of_cell? _ _ c2;have a4:¬(w.heap.size+1=R.b):=by omega
 have a5:¬(w.heap.size+1=g):=by omega
 have a6:¬(R.b=w.heap.size+1):=by omega
 have a7:¬(g=w.heap.size+1):=by omega
 have D:=E a;have H:=E y;have a1:(30:Int)<=x.ar.length:=by omega
 unfold maxLen at hm;clear Q h hf S hv q l b d a M A n y T P u v sa;subst z;generalize x.ar.length=wl at*;go_enter func27,ntmps27;go_wp2_with(first|(go_at_call 68;go_must(refine(HC.o).mono ?_;rintro e w1 ⟨rfl,rfl⟩;simp only[rZ]))|(go_at_call 69;go_must(refine(F.o _).mono ?_;rintro e w1 ⟨rfl,rfl⟩))|(go_at_call 73;go_must(refine(G.o _).mono ?_;rintro e w1 ⟨rfl,rfl⟩)))
 go_region_held3(λW=>W.cell? ⟨R.b,3,Y⟩=V (J (V ⟨g,0,Y⟩) R.af.length N)/\W.cell? ⟨g,k*3+2,Y⟩=V (J m wl j)/\W.cell? ⟨w.heap.size,0,Y⟩=V (O o)) (go_keep) (first|(go_at_call 70;refine(f.o _ (aa.drew _ _)).mono ?_;rintro e w2 ⟨rfl,c⟩;have i:=E ((aa.drew n_ _).tr c i_);obtain⟨q3,q2,q4,q5,q6⟩:=D.o _ i.o;have m1:=World.block_lt_of_cell? _ _ q3;have m2:=World.block_lt_of_cell? _ _ q2;have m3:=World.block_lt_of_cell? _ _ q4;clear c)|(go_at_call 70;refine(f.o _ ((aa.refl _ _).al _).dr).mono ?_;rintro e w2 ⟨rfl,c⟩;have i:=E (((aa.refl n_ _).al _).dr.tr c i_);obtain⟨n0,n1,n2,o0,o1,o2⟩:=bQ (Qa c);obtain⟨q3,q2,q4,q5,q6⟩:=D.o _ i.o;have m1:=World.block_lt_of_cell? _ _ q3;have m2:=World.block_lt_of_cell? _ _ q2;have m3:=World.block_lt_of_cell? _ _ q4;clear c));all_goals
  go_wp2;go_ret;first
  |exact⟨rfl,(H.o.tr i.o i_).al _⟩
  |(have hz:=eb (w.heap.size+1);exact⟨rfl,(((H.o.tr i.o i_).st (.inl (Nat.le_succ _)) _).st (.inl (Nat.le_succ _)) _).st (.inl (Nat.le_succ _)) _⟩)
def fP(b:List bq)(a:Int)(l:List an):Bool:=b.any λv=>(cV l v.r.key).isSome&&decide (a<v.aG)
theorem aa.lU{S:Nat->Prop}(h:aa S a w)(q:Nat):aa S a (w.drewN q):=h.tr (T:=λ_=>False) ⟨rfl,rfl,rfl,eb _,λ_ _ _=>rfl⟩ (λ_ h=>h.elim)
theorem QE(h:aa n_ (w.alloc (I #[x,y,z] e)).drew a):a.heap[w.heap.size]?=V (I #[x,y,z] e (0,0)):=by rw[h.block w.heap.size (by show _<(w.alloc _).heap.size;simp) id];exact az w (I #[x,y,z] e)
theorem IE(R:aM)(id a:Int)(sl:ax)(l:List an)(w:ab)(h:aY w R)(ha:R.all.length<100000000000)(hv:fE w sl l)(hl:l.length<100000000000):ba prog 79 #[X (V ⟨R.b,0,Y⟩),.agg #[Z U id,Z U a,sl]] w λe w'=>e=ay (ao (fP R.all a l))/\aa n_ w w':=by
 obtain⟨n,k,rfl,-,-⟩:=Row.form hv;obtain⟨C,A⟩:∃C,C=w.alloc (I #[Z U id,Z U a,J n l.length k] 128):=⟨_,rfl⟩
 have s:aa n_ w C:=A▸aa.alloc _ _ _;have h0:aY C R:=h.ai s k_;have M:C.heap[w.heap.size]?=V (I #[Z U id,Z U a,J n l.length k] 128 (0,0)):=A▸az w _;obtain⟨oa,ca,P,hm,sa⟩:=h0.all.form;have t:=h0.all;rw[P]at t;have HR:=E t;have SA:=E sa;have d:∀W,aa n_ C W->W.cell? ⟨R.b,0,Y⟩=V (J oa R.all.length ca)/\W.cell? ⟨w.heap.size,1,Y⟩=V (Z U a)/\W.cell? ⟨w.heap.size,2,Y⟩=V (J n l.length k):=λW L=>
  ⟨L.cell (p:=⟨R.b,0,Y⟩) ((h0.cell 0).trans (by rw[<-P];rfl)) (λh=>h),L.cell (p:=⟨w.heap.size,1,Y⟩) (ae M 1) (λh=>h),L.cell (p:=⟨w.heap.size,2,Y⟩) (ae M 2) (λh=>h)⟩
 have S:QS (∀(B:ByteArray) W,aa n_ C W->ba prog 70 #[J n l.length k,O B] W λe w'=>e=ay (bt #[((cV l B).getD an.zero).val,ao (cV l B).isSome])/\aa n_ W w'):=λB W L=>
  rX (J n l.length k) l B W (Row.ai (Row.ai hv s k_) L k_) (by omega)
 have q:=E d;have T:=E s;have a8:=s.size;have a7:=h.blt;have a6:w.heap.size<C.heap.size:=by rw[A];simp
 have a4:=E A;unfold maxLen at hm;obtain⟨b,a0⟩:∃b,b=R.all:=⟨_,rfl⟩
 rw[<-a0]at HR SA q hm ha⊢;generalize hll:l.length=ll at*;clear h h0 t P sa d M s hv a0 A;go_enter func79,ntmps79;go_wp2_with fail;rw[<-a4.o];go_loopw [5] (λi wr=>∃j:Nat,j<=b.length/\i=Z U j/\aa n_ C wr/\fP (b.take j) a l=false) (λi _=>b.length-(intOf i).toNat)
 case atStart=>exact⟨0,eL _,rfl,aa.refl _ _,rfl⟩
 case round=>
  obtain⟨j,hj,rfl,G,a3⟩:=hrel;obtain⟨f0,f1,f2⟩:=q.o _ G;have f:=E G;have Q:=E a3;have u:=G.size;clear G a3;by_cases a5:j<b.length
  ·obtain⟨g,rfl⟩:=SA.o (by omega);obtain⟨x,hx⟩:∃x,b[j]?=V x:=⟨b[j],ec a5⟩
   have y:∀W,aa n_ C W->W.cell? ⟨g,j*5,Y⟩=V (Z U x.aG)/\W.cell? ⟨g,j*5+1,Y⟩=V (O x.r.key):=λW L=>by obtain⟨a1,a2,-⟩:=tW HR.o L hx;exact⟨a1,a2⟩
   obtain⟨e0,e1⟩:=y _ f.o;have r:=E y;have D:QS (fP (b.take (j+1)) a l=((cV l x.r.key).isSome&&decide (a<x.aG))):=by show _=_;have:=Q.o;unfold fP at this⊢;rw[eo hx,TH,this];simp
   have H:QS (fP (b.take (j+1)) a l=true->fP b a l=true):=λh=>by unfold fP at h⊢;rw[Rt]at h⊢;obtain⟨v,h1,h2⟩:=h;exact⟨v,Sd h1,h2⟩
   have HH:=E (S.o x.r.key);obtain⟨⟨zk,zv,zg⟩,hz⟩:∃z,z=(cV l x.r.key).getD an.zero:=⟨_,rfl⟩
   obtain⟨is,N⟩:∃o,o=(cV l x.r.key).isSome:=⟨_,rfl⟩
   rw[<-hz,<-N]at HH;rw[<-N]at D;simp only[an.val]at HH;generalize x.r.key=xk at*;generalize x.aG=xs at*;clear hx y hz N;have l1:R.b<wr.heap.size:=World.block_lt_of_cell? _ _ f0;have l2:g<wr.heap.size:=World.block_lt_of_cell? _ _ e0;have l3:w.heap.size<wr.heap.size:=World.block_lt_of_cell? _ _ f1;have a9:¬(wr.heap.size=R.b):=by omega
   have b0:¬(wr.heap.size=g):=by omega
   have b1:¬(wr.heap.size=w.heap.size):=by omega
   have b2:¬(R.b=wr.heap.size):=by omega
   have b3:¬(g=wr.heap.size):=by omega
   have b4:¬(w.heap.size=wr.heap.size):=by omega
   go_upto_region 4 with fail;go_cut [7] (λo wc=>o=ao is/\aa n_ C wc)
   case first=>
    go_region_held3(λW=>W.cell? ⟨R.b,0,Y⟩=V (J (V ⟨g,0,Y⟩) b.length ca)/\W.cell? ⟨g,j*5+1,Y⟩=V (O xk)/\W.cell? ⟨w.heap.size,2,Y⟩=V (J n ll k)) (go_keep) (first|(go_at_call 70;refine(HH.o _ f.o.dr).mono ?_;rintro e w2 ⟨rfl,m⟩;have c:=E (f.o.dr.tr m i_);obtain⟨q0,q1,q2⟩:=q.o _ c.o;obtain⟨q3,q4⟩:=r.o _ c.o;have m1:=World.block_lt_of_cell? _ _ q0;have m2:=World.block_lt_of_cell? _ _ q2;have m3:=World.block_lt_of_cell? _ _ q4;clear m)|(go_at_call 70;refine(HH.o _ (f.o.al _).dr).mono ?_;rintro e w2 ⟨rfl,m⟩;have c:=E ((f.o.al _).dr.tr m i_);obtain⟨n0,n1,n2,o0,o1,o2⟩:=bQ (QE m);obtain⟨q0,q1,q2⟩:=q.o _ c.o;obtain⟨q3,q4⟩:=r.o _ c.o;have m1:=World.block_lt_of_cell? _ _ q0;have m2:=World.block_lt_of_cell? _ _ q2;have m3:=World.block_lt_of_cell? _ _ q4;clear m));all_goals
     go_wp2_with fail;go_meet;first
     |exact⟨rfl,c.o.al _⟩
     |exact⟨rfl,((c.o.st (.inl (by simpa using u)) _).st (.inl (by simpa using u)) _).st (.inl (by simpa using u)) _⟩
   case rest=>
    obtain⟨rfl,F⟩:=hcut;obtain⟨q0,q1,q2⟩:=q.o _ F;obtain⟨q3,q4⟩:=r.o _ F;have K:=E F;clear F;cases is with
    |false=>
     have HN:QS (fP (b.take (j+1)) a l=false):=by show _=_;rw[D.o];rfl
     go_wp2_with fail;go_quiet(fail);go_wp2;exact⟨⟨j+1,by omega,by go_num,(K.o.lU _),HN.o⟩,by simp only[intOf];omega⟩
    |true=>
     by_cases hs:a<xs
     ·have HN:QS (fP b a l=true):=H.o (by rw[D.o];simp[hs]);go_wp2_with fail;go_quiet(fail);go_wp2;go_ret;exact⟨cR HN.o.symm,T.o.tr (K.o.lU _) i_⟩
     ·have HN:QS (fP (b.take (j+1)) a l=false):=by show _=_;rw[D.o];simp[hs]
      have hd:decide (a<xs)=false:=kg hs;go_wp2_with fail;go_quiet(fail);go_wp2;exact⟨⟨j+1,by omega,by go_num,(K.o.lU _),HN.o⟩,by simp only[intOf];omega⟩
  ·have HE:QS (fP b a l=false):=by show _=_;have:=Q.o;rw[ep (by omega)]at this;exact this
   go_wp2;go_ret;exact⟨cR HE.o.symm,T.o.tr f.o i_⟩
theorem sZ:∀(a b:List UInt8) (k:Nat),k<common a b->∃(c:k<a.length) (d:k<b.length),a[k]=b[k]
 |[],b,k,h=>by simp[common]at h
 |x::a,[],k,h=>by simp[common]at h
 |x::a,y::b,k,h=>by
  simp only[common]at h;split at h
  ·rename_i e;cases k with
   |zero=>exact⟨by simp,by simp,by simpa using e⟩
   |succ k=>
    obtain⟨c,d,f⟩:=sZ a b k (by omega);exact⟨by simpa using c,by simpa using d,by simpa using f⟩
  ·omega
theorem pC:∀(a b:List UInt8),common a b=a.length\/common a b=b.length\/∃(d:common a b<a.length) (f:common a b<b.length),a[common a b]≠b[common a b]
 |[],b=>.inl (by simp[common])
 |x::a,[]=>.inr (.inl (by simp[common]))
 |x::a,y::b=>by
  by_cases e:x=y
  ·have c:common (x::a) (y::b)=common a b+1:=by simp[common,e]
   rcases pC a b with h|h|⟨d,f,g⟩
   ·exact .inl (by rw[c,h];simp)
   ·exact .inr (.inl (by rw[c,h];simp))
   ·refine .inr (.inr ⟨by rw[c];simp;omega,by rw[c];simp;omega,?_⟩);simp only[c,Rf];exact g
  ·have c:common (x::a) (y::b)=0:=by simp[common,e]
   refine .inr (.inr ⟨by rw[c];simp,by rw[c];simp,?_⟩);simp only[c,Ru];exact e
theorem sd(a b:ByteArray)(w:ab)(u:a.size<=maxLen):ba prog 209 #[O a,O b] w λe v=>e=ay (Z U (common a.data.toList b.data.toList:Nat))/\aa n_ w v:=by
 have g:QS (∀k,k<common a.data.toList b.data.toList->∃(l:k<a.size) (m:k<b.size),a[k]=b[k]):=λk s=>by obtain⟨l,m,f⟩:=sZ _ _ k s;exact⟨by simpa using l,by simpa using m,by simp only[Tr]at f;exact f⟩
 have j:QS (common a.data.toList b.data.toList=a.size\/common a.data.toList b.data.toList=b.size\/∃(l:common a.data.toList b.data.toList<a.size) (m:common a.data.toList b.data.toList<b.size),a[common a.data.toList b.data.toList]≠b[common a.data.toList b.data.toList]):=by
  rcases pC a.data.toList b.data.toList with h|h|⟨l,m,f⟩
  ·exact .inl (by simpa using h)
  ·exact .inr (.inl (by simpa using h))
  ·exact .inr (.inr ⟨by simpa using l,by simpa using m,by simp only[Tr,ne_eq]at f;exact f⟩)
 have o:QS (common a.data.toList b.data.toList<=a.size/\common a.data.toList b.data.toList<=b.size):=by have:=jC a.data.toList b.data.toList;show _/\_;simpa using this
 generalize common a.data.toList b.data.toList=c at*;unfold maxLen at u;go_enter func209,ntmps209;go_wp2_with fail;go_loopw [5] (λi wr=>∃k:Nat,k<=c/\i=Z U k/\aa n_ w wr) (λi _=>c-(intOf i).toNat)
 case atStart=>exact⟨0,eL _,rfl,aa.refl _ _⟩
 case round=>
  obtain⟨k,s,rfl,q⟩:=hrel;have d:=E q;clear q;by_cases n:k<c
  ·obtain⟨l,m,f⟩:=g.o k n;have r:decide (k<a.size)=true:=mI (by omega);have t:decide (k<b.size)=true:=mI (by omega);go_wp2_with fail;go_quiet(fail);go_wp2;exact⟨⟨k+1,by omega,by go_num,d.o.lU _⟩,by simp only[intOf];omega⟩
  ·have e:k=c:=by omega
   subst e;rcases j.o with h|h|⟨l,m,f⟩
   ·have r:decide (k<a.size)=false:=kg (by omega);go_wp2_with fail;go_quiet(fail);go_wp2;go_ret;exact⟨rfl,d.o.lU _⟩
   ·by_cases p:k<a.size
    ·have r:decide (k<a.size)=true:=mI (by omega);have t:decide (k<b.size)=false:=kg (by omega);clear h p j o g n s;go_wp2_with fail;go_quiet(fail);go_wp2;go_ret;exact⟨rfl,d.o.lU _⟩
    ·have r:decide (k<a.size)=false:=kg (by omega);clear h p j o g n s;go_wp2_with fail;go_quiet(fail);go_wp2;go_ret;exact⟨rfl,d.o.lU _⟩
   ·have r:decide (k<a.size)=true:=mI (by omega);have t:decide (k<b.size)=true:=mI (by omega);have x:¬a[k].toNat=b[k].toNat:=λe=>f (UInt8.toNat_inj.1 e);go_wp2_with fail;go_quiet(fail);go_wp2;go_ret;exact⟨rfl,d.o.lU _⟩
end Go.Proofs.YtjbkfdeldlajhaaGreatDoor
