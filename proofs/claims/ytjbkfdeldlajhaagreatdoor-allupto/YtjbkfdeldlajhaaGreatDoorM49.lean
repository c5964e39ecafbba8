import Derived.Test.YtjbkfdeldlajhaaGreatDoorM46
set_option linter.unusedSimpArgs false
namespace Go.Proofs.YtjbkfdeldlajhaaGreatDoor
set_option maxRecDepth 100000
set_option maxHeartbeats 4000000
open Go.RowKit Go.Shelf Go.Proofs.Tryz Go.ChangeShapes Go.WideShapes Go.ChangeAt Go.Deep
open Option renaming none->Y,some->V
open Go.Value renaming int->Z,string->O,slice->J,bool->ao
open Go.IntKind renaming i64->U
open Go.Obj renaming cells->I
open Go renaming World->ab,Value->ax,Calls->ba,TypeId->cI
open Go.Ending renaming returned->ay
variable{w:ab}
def qv.cells(s:qv):List ax:=[Z U s.k,Z U s.n,Z U s.m,O s.key,O s.val,ao s.full,J s.ta s.tl s.tc,ao s.OS,Z U s.OR,Z U s.QO,J s.ra s.rl s.rc]
def qv.Ok(s:qv):Prop:=(-9223372036854775808<=s.k/\s.k<=9223372036854775807)/\(-9223372036854775808<=s.m/\s.m<=9223372036854775807)/\s.key.size<=maxLen/\s.val.size<=maxLen
def PH(k:Int)(b:ByteArray)(a:Bool):qv:=⟨k,0,0,⟨#[]⟩,b,a,Y,0,0,false,0,0,Y,0,0⟩
def Qo:ByteArray:=⟨#[110,111,119]⟩
def gz:List qv:=[PH 21 Qo true,PH 19 ⟨#[]⟩ false,PH 8 ⟨#[]⟩ false,PH 21 Qo true,PH 14 ⟨#[]⟩ false]
theorem Tryz.Pv:(prog.info? 30).map (λi=>(i.zero,i.size,i.bytes))=V (V (.agg #[Z U 0,Z U 0,Z U 0,O ⟨#[]⟩,O ⟨#[]⟩,ao false,J Y 0 0,ao false,Z U 0,Z U 0,J Y 0 0]),11,136):=by kernel_rfl
theorem Fy{o:Option Addr}{c:Nat}{l:List qv}{S:Nat->qv}(h:Row w 30 11 (J o l.length c) l.length (l.flatMap qv.cells))(n:∀i (a:i<l.length),S i=l[i])(b:∀s∈l,s.Ok):oW w o l.length S:=λi a=>by obtain⟨v,u,p,-,t⟩:=h.form;cases p;obtain⟨g,rfl⟩:=t (by omega);have e:=λr (q:r<11)=>Row.elem (f:=qv.cells) (size:=11) (λ_=>rfl) h i a r q;rw[n i a];obtain⟨d,j,k,m⟩:=b _ (nE a);refine⟨g,0,rfl,?_⟩;rw[tA];exact⟨e 0 (by omega),e 1 (by omega),e 2 (by omega),e 3 (by omega),e 4 (by omega),e 5 (by omega),e 6 (by omega),e 7 (by omega),e 8 (by omega),e 9 (by omega),e 10 (by omega),d,j,k,m⟩
theorem Le(oa:Option Addr)(f a3:Nat)(S:Nat->qv)(w:ab)(h:oW w oa f S)(hl:f<=1048576)(hp:∀o c W,Made 30 11 qv.cells w W (J o (f+5) c) ((List.range f).map S++gz)->ba prog 5 #[J o (f+5) c,Z U 21] W λe w'=>e=ay (ao true)/\aa n_ W w'):ba prog 4 #[J oa f a3] w λe w'=>e=ay (ao true)/\aa n_ w w':=by
 obtain⟨i0,hi,C,D,F⟩:=info_parts Tryz.Pv;have y:=E h;have HP:=E hp;have G:=E hl;have a8:(f:Int)<=1048576:=by omega
 clear h hp hl;go_enter func4,ntmps4;go_wp2_with fail;go_loopw [3,4] (λv i wr=>∃k:Nat,k<=f/\i=Z U (k:Nat)/\Made 30 11 qv.cells w wr v ((List.range k).map S)) (λ_ i _=>f-(intOf i).toNat)
 case atStart=>exact⟨0,eL _,rfl,Made.nil (aa.refl _ _)⟩
 case round=>
  obtain⟨k,hk,rfl,A⟩:=hrel;have a6:(k:Int)<=f:=by omega
  have j:((List.range k).map S).length=k:=by simp
  obtain⟨ob,cb,hv,-,-⟩:=A.row.form;rw[j]at hv;subst hv;have H:=E A;have r:=E j;have HK:=E hk;by_cases u:k<f
  ·obtain⟨b,a9,rfl,a4⟩:=(y.o.ai A.keep) k u;have a1:QS ((List.range (k+1)).map S=(List.range k).map S++[S k]):=by show _=_;rw[TE,xT];rfl
   generalize (List.range k).map S=al at*;generalize S k=s at*;obtain⟨L,on,M,l,p,K,ta,tl,tc,sf,R,T,N,Q,P⟩:=s;obtain⟨c0,c1,c2,c3,c4,c5,c6,c7,c8,c9,a2,-,-,-,-⟩:=a4;simp only at c0 c1 c2 c3 c4 c5 c6 c7 c8 c9 a2;have a5:(k:Int)<f:=by omega
   have x:=E u;clear A hk u j;go_wp2_with(first|(at_builtin;go_must(refine aL _ rfl _ _ 22 rfl 30 i0 _ 11 136 Tryz.underlying22 hi C D F rfl (J ob k cb) k _ rfl (by have B:=H.o.row.ai (aa.alloc n_ wr (I #[Z U L,Z U on,Z U M,O l,O p,ao K,J ta tl tc,ao sf,Z U R,Z U T,J N Q P] 30)) k_;rw[r.o]at B;exact B) ⟨wr.heap.size,0,Y⟩ 1 1 [Z U L,Z U on,Z U M,O l,O p,ao K,J ta tl tc,ao sf,Z U R,Z U T,J N Q P] rfl rfl (br _ #[Z U L,Z U on,Z U M,O l,O p,ao K,J ta tl tc,ao sf,Z U R,Z U T,J N Q P] _) (by simp[Value.oneCell']) (by have:=G.o;have:=HK.o;unfold maxLen;omega) (by have:=G.o;have:=HK.o;omega) ?_;intro v' w8 d g _ q;obtain⟨g',z,rfl⟩:=d.succ;have t:=E (H.o.push (a:=⟨L,on,M,l,p,K,ta,tl,tc,sf,R,T,N,Q,P⟩) (aa.alloc n_ _ _) (by rw[r.o];exact d) g q);clear d g q))|fail)
   exact⟨⟨k+1,x.o,by go_num,by rw[a1.o];exact t.o⟩,by simp only[intOf];have:=x.o;omega⟩
  ·obtain rfl:k=f:=by omega
   have a7:¬((k:Int)<k):=by omega
   generalize (List.range k).map S=al at*;clear A hk j u;go_wp2_with(first
    |(at_builtin;go_must(refine aL _ rfl _ _ 22 rfl 30 i0 _ 11 136 Tryz.underlying22 hi C D F rfl (J ob k cb) k _ rfl (by have B:=H.o.row.ai (aa.alloc n_ wr (I (gz.flatMap qv.cells).toArray 30)) k_;rw[r.o]at B;exact B) ⟨wr.heap.size,0,Y⟩ 5 5 (gz.flatMap qv.cells) rfl rfl (br _ (gz.flatMap qv.cells).toArray _) (by simp[gz,PH,qv.cells,Value.oneCell']) (by have:=G.o;unfold maxLen;omega) (by have:=G.o;omega) ?_;intro v' w8 d g _ q;obtain⟨g',z,rfl⟩:=Row.succ (n:=k+4) d;have t:=E (H.o.MG (m:=gz) (aa.alloc n_ _ _) (by rw[r.o];exact d) g q);clear d g q))
    |(go_at_call 5;go_must(refine(HP.o _ _ _ t.o).mono ?_;rintro e w9 ⟨rfl,k9⟩;have a0:=E k9;clear k9)))
   go_ret;exact⟨rfl,t.o.keep.tr a0.o i_⟩
theorem oV.ai{d:ab}{s:qv}{c:List ByteArray}{b:List an}(h:oV w s c b)(a:aa n_ w d):oV d s c b:=⟨h.tl,h.rl,h.QR.ai a,h.bS.ai a,h.tn,h.tz,h.rn,h.rz,h.vz⟩
theorem GZ:∀s∈gz,s.Ok/\s.tl=0/\s.rl=0/\s.val.size<=3:=by intro s a;simp only[gz,cT,RQ,TP]at a;rcases a with rfl|rfl|rfl|rfl|rfl<;>exact⟨⟨by decide,by decide,by unfold maxLen;decide,by unfold maxLen;decide⟩,rfl,rfl,by decide⟩
theorem Fm(r:Option Addr)(a k:Nat)(S:Nat->qv)(T:Nat->List ByteArray)(R:Nat->List an)(w:ab)(h:oW w r a S)(y:∀i,i<a->oV w (S i) (T i) (R i))(x:a<=1048576)(v:gK w):ba prog 4 #[J r a k] w λe D=>e=ay (ao true)/\aa n_ w D:=by
 refine Le r a k S w h x (λo c W n=>?_);have g:((List.range a).map S++gz).length=a+5:=by simp[gz]
 have p:∀i (f:i<((List.range a).map S++gz).length),(if i<a then S i else gz[i-a]?.getD (PH 0 ⟨#[]⟩ false))=((List.range a).map S++gz)[i]:=λi f=>by
  by_cases d:i<a
  ·rw[fy d,Tc (by simpa using d)];simp
  ·rw[el d,List.getElem_append_right (by simpa using d)];simp only[hO,SY];rw[ec (by simp at f;omega)];rfl
 have j:=n.row;rw[<-g]at j⊢;refine zy o _ c _ (λi=>if i<a then T i else []) (λi=>if i<a then R i else []) W (Fy j p (λs l=>?_)) (λi f=>?_) (by omega) (v.ai n.keep)
 ·rcases cQ.1 l with l|l
  ·obtain⟨i,f,rfl⟩:=fI.1 l;obtain⟨b,z,-,m⟩:=h i (TN.1 f);exact⟨m.bk,m.bm,m.bkey,m.bval⟩
  ·exact(GZ s l).1
 ·by_cases d:i<a
  ·rw[fy d,fy d,fy d];exact(y i d).ai n.keep
  ·rw[el d,el d,el d];have u:i-a<gz.length:=by rw[g]at f;simp[gz];omega
   rw[ec u];obtain⟨-,A,B,C⟩:=GZ _ (nE u);exact⟨A,B,λi f=>absurd f (Sr _),λi f=>absurd f (Sr _),eL _,λt q=>(by cases q),eL _,λt q=>(by cases q),mA C (by decide)⟩
theorem Im(c:Os){H:Type}(b:cI×ax->H):∃a,DataW.whole b prog ((mY prog Rows.allUptoRow.laid Rows.laid_annals_stream_turns c).forCall (λ_ _=>0) ⟨#[],#[J Y 0 0],[]⟩).memory Tryz.f4.params.toList Rows.allSpec.vars false #[J Y 0 0].toList 8=V ([.nil],[],a):=
 ⟨[],by kernel_rfl⟩
theorem Ej(y:Os)(g:y.Started)(H:Type)(c:cI×ax->H)(F:Stop.Interp):ReturnsInHanded {} Tryz.checked y 4 .any ((Rows.OpenSpec.upto Rows.allSpec).preRow c prog Tryz.f4 Rows.allUptoRow.domain false Rows.allUptoRow.laid) (((Rows.OpenSpec.upto Rows.allSpec).at F).post c prog Tryz.f4 false true false false):=by
 obtain⟨A,hx⟩:=Im y c;refine returnsInHanded_of_row (C:=Tryz.checked) (s:=Rows.OpenSpec.upto Rows.allSpec) Tryz.own g (by kernel_rfl) func4 (witness_row_atRef (enc:=c) (C:=Tryz.checked) false (mY prog Rows.allUptoRow.laid Rows.laid_annals_stream_turns y) #[J Y 0 0] rfl (by kernel_rfl) (by kernel_rfl) (by kernel_rfl)
  (OpenSpec.preRow_of_cond 8 hx (by kernel_rfl) (λk K=>by cases K;kernel_rfl) (by kernel_rfl) (Cx y _))) ?_
 intro W o a ds gs z f T _ d _ n _ _;have l:∀(j:Nat) t v,Tryz.f4.params[j]?=V t->a[j]?=V v->Value.okWide prog W .any o t v:=f;have D:=T;obtain⟨p,q,w,hV,rfl,a2,a3⟩:=T;have R:DataW.TrodAll c prog W 0 (λ_=>true) true Tryz.f4.params.toList a.toList ds p:=w;rw[Tryz.params4]at R l;obtain⟨v0,a4,B,a1,p0,q0,G,rfl,rfl,Q,r0⟩:=trodAll_cons R;obtain⟨rfl,rfl,rfl⟩:=trodAll_nil r0;obtain rfl:a=#[v0]:=by cases a;simp_all
 obtain⟨rfl,rfl⟩:=trodVars_none hV;obtain⟨N,b,u,rfl⟩:=okWide_slice Tryz.underlying22 (l 0 22 v0 rfl rfl);have k0:=Q;have L:∀x∈p0,x.block<W.heap.size:=by obtain⟨m,hm⟩:=k0;exact DataW.trod_lt m _ _ _ hm
 have hb:Rows.uptoBulkAll ([B]++[])<=1048576:=RC (d _ rfl);obtain⟨M,t0,m0,l0⟩:∃S:Nat->qv×List ByteArray×List an,oW W N b (λi=>(S i).1)/\(∀i,i<b->oV W (S i).1 (S i).2.1 (S i).2.2)/\b<=1048576:=by obtain⟨P,hf⟩:=Q;exact CQ (x:=(B,p0)) (by simpa[Value.cells]using hf) (by simp only[Kp,Rows.uptoBulkAll]at hb;show Rows.uptoBulk B<=_;omega)
 clear w f d;refine(Fm N b u _ (λi=>(M i).2.1) (λi=>(M i).2.2) W t0 m0 l0 (rW n)).mono λe W' ⟨he,K⟩=>?_;subst he;have r:Below W.heap.size W W':=K.toBelow (eb _) k_;exact⟨_,rfl,_,_,_,[],_,[],D,trodAll_mk1 (shut_bool Tryz.underlying4 _),(trodAll_cons_mk (Below.trod Tryz.laidOut (by kernel_rfl) (RC (by kernel_rfl)) k0 r L) trodAll_mk0),rfl,r.frame _,λh=>by cases h⟩
end Go.Proofs.YtjbkfdeldlajhaaGreatDoor
