import Derived.Test.YtjbkfdeldlajhaaGreatDoorM21
import Derived.BigRegion
set_option linter.unusedSimpArgs false
namespace Go.Proofs.YtjbkfdeldlajhaaGreatDoor
set_option maxRecDepth 100000
set_option maxHeartbeats 4000000
open Go.RowKit Go.Extern.Stop Go.Stop Go.Extern Go.Proofs.Tryz Go.Shelf
open Option renaming none->Y,some->V
open Go.Value renaming int->Z,pointer->X,bool->ao,tuple->bt,string->O,slice->J
open Go.Obj renaming cells->I
open Go renaming World->ab,Value->ax,Calls->ba,TypeId->cI
open Go.Ending renaming returned->ay
open Go.IntKind renaming i64->U
variable{w:ab}{a b:Nat}
def ti:Array ax->Sem ax:=λa=>ReflectliteValue.unpack (a.getD 0 (bt #[]))
def LJ:Array ax->Sem ax:=ReflectliteValue.methodAny (ReflectliteValue.valueError "reflectlite.Value.Type" 0) (λt _ _ _=>ReflectliteType.toType t)
def GM:Array ax->Sem ax:=ReflectliteValue.method (ReflectliteValue.valueError "reflectlite.Value.IsNil" 0) ReflectliteValue.isNil
def EP:Array ax->Sem ax:=ReflectliteType.abiMethod λt=>do pure (Z .u8 (<-Rtype.kind t))
def GK:Array ax->Sem ax:=ReflectliteType.method ReflectliteType.elem
def rQ:Array ax->Sem ax:=ReflectliteType.relation "Implements" ReflectliteType.implements_
def rP:Array ax->Sem ax:=ReflectliteType.relation "AssignableTo" ReflectliteType.assignableTo
def GL:Array ax->Sem ax:=ReflectliteValue.method (ReflectliteValue.valueError "reflectlite.Value.Elem" 0) ReflectliteValue.elem
def OI:Array ax->Sem ax:=ReflectliteValue.set
theorem Tryz.En(t:Addr)(w:ab):(ti #[.iface 242 (X (V t))]).run prog w=.ok (.agg #[X (V ⟨16,242,Y⟩),X (V ⟨w.heap.size,0,Y⟩),Z .u64 150]) (w.alloc (I #[X (V t)] 242)):=by kernel_rfl
theorem Tryz.Em(t:Addr)(w:ab):(ti #[.iface 231 (X (V t))]).run prog w=.ok (.agg #[X (V ⟨16,231,Y⟩),X (V ⟨w.heap.size,0,Y⟩),Z .u64 150]) (w.alloc (I #[X (V t)] 231)):=by kernel_rfl
theorem Tryz.NG(a:Addr)(w:ab):(LJ #[.agg #[X (V ⟨16,242,Y⟩),X (V a),Z .u64 150]]).run prog w=.ok (.iface 274 (.agg #[X (V ⟨16,242,Y⟩)])) w:=by kernel_rfl
theorem Tryz.Ai(h:ax)(w:ab):(Go.method 465 274 (.agg #[h]) "Kind").run prog w=.ok (255,h) w:=by kernel_rfl
theorem Tryz.NF(w:ab):(EP #[X (V ⟨16,242,Y⟩)]).run prog w=.ok (Z .u8 22) w:=by kernel_rfl
theorem Tryz.ND(w:ab):(EP #[X (V ⟨16,231,Y⟩)]).run prog w=.ok (Z .u8 22) w:=by kernel_rfl
theorem Tryz.Ah(h:ax)(w:ab):(Go.method 465 274 (.agg #[h]) "Elem").run prog w=.ok (264,.agg #[h]) w:=by kernel_rfl
theorem Tryz.qN(h:ax)(w:ab):(Go.method 465 274 (.agg #[h]) "Implements").run prog w=.ok (265,.agg #[h]) w:=by kernel_rfl
theorem Tryz.qM(h:ax)(w:ab):(Go.method 465 274 (.agg #[h]) "AssignableTo").run prog w=.ok (262,.agg #[h]) w:=by kernel_rfl
theorem Tryz.NC(w:ab):(GK #[.agg #[X (V ⟨16,242,Y⟩)]]).run prog w=.ok (.iface 274 (.agg #[X (V ⟨16,231,Y⟩)])) w:=by kernel_rfl
theorem Tryz.ye(w:ab):(rQ #[.agg #[X (V ⟨16,231,Y⟩)],.iface 274 (.agg #[X (V ⟨16,159,Y⟩)])]).run prog w=.ok (ao true) w:=by kernel_rfl
theorem Tryz.Iu(v:ax)(w:ab):(ReflectliteType.typeOf #[.iface 231 v]).run prog w=.ok (.iface 274 (.agg #[X (V ⟨16,231,Y⟩)])) w:=by kernel_rfl
theorem Tryz.yd(w:ab):(rP #[.agg #[X (V ⟨16,231,Y⟩)],.iface 274 (.agg #[X (V ⟨16,231,Y⟩)])]).run prog w=.ok (ao true) w:=by kernel_rfl
theorem Tryz.Bz(a:Addr)(w:ab):(ReflectliteValue.parts (.agg #[X (V ⟨16,242,Y⟩),X (V a),Z .u64 150])).run prog w=.ok (V (242,a,150)) w:=by kernel_rfl
theorem Tryz.It(a:Addr)(w:ab):(ReflectliteValue.parts (.agg #[X (V ⟨16,231,Y⟩),X (V a),Z .u64 406])).run prog w=.ok (V (231,a,406)) w:=by kernel_rfl
theorem Tryz.Li(a:Addr)(w:ab):(ReflectliteValue.parts (.agg #[X (V ⟨16,231,Y⟩),X (V a),Z .u64 150])).run prog w=.ok (V (231,a,150)) w:=by kernel_rfl
theorem Tryz.Is(w:ab):(Rtype.elem? 242).run prog w=.ok (V 231) w:=by kernel_rfl
theorem Tryz.PX(p:Addr)(w:ab):(ReflectliteValue.mk 231 p ReflectliteValue.flagAddr).run prog w=.ok (.agg #[X (V ⟨16,231,Y⟩),X (V p),Z .u64 406]) w:=by kernel_rfl
theorem Tryz.Ir(w:ab):(Rtype.directlyAssignable 231 231).run prog w=.ok true w:=by kernel_rfl
theorem Tryz.Lh(a p:Addr)(W:ab)(b:W.cell? a=V (X (V p))):(GM #[.agg #[X (V ⟨16,242,Y⟩),X (V a),Z .u64 150]]).run prog W=.ok (ao false) W:=by change Sem.run prog (ReflectliteValue.parts (.agg #[X (V ⟨16,242,Y⟩),X (V a),Z .u64 150])>>=_) W=_;simp only[Sem.run_bind,Tryz.Bz,Result.andThen];simp[ReflectliteValue.isNil,loadVar,isAgg,underlying,Tryz.underlying242,b,Result.andThen]
theorem Tryz.Lg(a p:Addr)(W:ab)(b:W.cell? a=V (X (V p))):(GL #[.agg #[X (V ⟨16,242,Y⟩),X (V a),Z .u64 150]]).run prog W=.ok (.agg #[X (V ⟨16,231,Y⟩),X (V p),Z .u64 406]) W:=by change Sem.run prog (ReflectliteValue.parts (.agg #[X (V ⟨16,242,Y⟩),X (V a),Z .u64 150])>>=_) W=_;simp only[Sem.run_bind,Tryz.Bz,Result.andThen];simp[ReflectliteValue.elem,loadVar,isAgg,underlying,Tryz.underlying242,b,Result.andThen,Tryz.Is,Tryz.PX]
theorem Tryz.Pg(a b e:Addr)(c:ax)(W:ab)(d:W.cell? b=V (X (V e)))(g:W.cell? a=V c)(f:W.frozen? a=false):(OI #[.agg #[X (V ⟨16,231,Y⟩),X (V a),Z .u64 406],.agg #[X (V ⟨16,231,Y⟩),X (V b),Z .u64 150]]).run prog W=.ok (bt #[]) (W.setCell a (X (V e))):=by change Sem.run prog (ReflectliteValue.parts (.agg #[X (V ⟨16,231,Y⟩),X (V a),Z .u64 406])>>=λp=>ReflectliteValue.parts (.agg #[X (V ⟨16,231,Y⟩),X (V b),Z .u64 150])>>=_) W=_;simp only[Sem.run_bind,Tryz.It,Tryz.Li,Result.andThen];simp[ReflectliteValue.flagAddr,loadVar,isAgg,underlying,Tryz.underlying231,d,Result.andThen,Tryz.Ir,storeVar,Value.cells,storeCells,Addr.add];rw[run_store prog W a _ _ (by rfl)];simp[g,f]
theorem Lj(e t:Addr)(c:ax)(w:ab)(g:w.cell? ⟨7,0,Y⟩=V (.iface 274 (.agg #[X (V ⟨16,159,Y⟩)])))(a:w.cell? t=V c)(d:w.frozen? t=false):ba prog 156 #[.iface 231 (X (V e)),.iface 242 (X (V t))] w λj y=>j=ay (ao true)/\y=((((w.alloc (I #[X (V t)] 242)).alloc (I #[X (V ⟨16,242,Y⟩),X (V ⟨w.heap.size,0,Y⟩),Z .u64 150] 286)).alloc (I #[X (V ⟨16,242,Y⟩),X (V ⟨w.heap.size,0,Y⟩),Z .u64 150] 286)).alloc (I #[X (V e)] 231)).setCell t (X (V e)):=by
 have C:=@run_callFunc_extern prog 190 _ ti func190 (by kernel_rfl) (by kernel_rfl) (by kernel_rfl) (by kernel_rfl);have D:=@run_callFunc_extern prog 191 _ LJ func191 (by kernel_rfl) (by kernel_rfl) (by kernel_rfl) (by kernel_rfl);have F:=@run_callFunc_extern prog 192 _ GM func192 (by kernel_rfl) (by kernel_rfl) (by kernel_rfl) (by kernel_rfl);have n:=@run_callFunc_extern prog 255 _ EP func255 (by kernel_rfl) (by kernel_rfl) (by kernel_rfl) (by kernel_rfl);have p:=@run_callFunc_extern prog 264 _ GK func264 (by kernel_rfl) (by kernel_rfl) (by kernel_rfl) (by kernel_rfl);have q:=@run_callFunc_extern prog 265 _ rQ func265 (by kernel_rfl) (by kernel_rfl) (by kernel_rfl) (by kernel_rfl);have k:=@run_callFunc_extern prog 154 _ ReflectliteType.typeOf func154 (by kernel_rfl) (by kernel_rfl) (by kernel_rfl) (by kernel_rfl);have o:=@run_callFunc_extern prog 262 _ rP func262 (by kernel_rfl) (by kernel_rfl) (by kernel_rfl) (by kernel_rfl);have l:=@run_callFunc_extern prog 214 _ GL func214 (by kernel_rfl) (by kernel_rfl) (by kernel_rfl) (by kernel_rfl);have m:=@run_callFunc_extern prog 215 _ OI func215 (by kernel_rfl) (by kernel_rfl) (by kernel_rfl) (by kernel_rfl);have P:=Tryz.Iu;have G:=Tryz.qM;have h:=Tryz.yd;have x:=Tryz.Em;have A:=Tryz.En;have B:=Tryz.NG;have L:=Tryz.Ai;have H:=Tryz.Ah;have K:=Tryz.qN;have v:=Tryz.NF;have u:=Tryz.ND;have i:=Tryz.NC;have s:=Tryz.ye;have M:=Tryz.Lh ⟨w.heap.size,0,Y⟩ t ((w.alloc (I #[X (V t)] 242)).alloc (I #[X (V ⟨16,242,Y⟩),X (V ⟨w.heap.size,0,Y⟩),Z .u64 150] 286)) (by simp);have f:7<w.heap.size:=World.block_lt_of_cell? _ _ g;have r:((w.alloc (I #[X (V t)] 242)).alloc (I #[X (V ⟨16,242,Y⟩),X (V ⟨w.heap.size,0,Y⟩),Z .u64 150] 286)).cell? ⟨7,0,Y⟩=V (.iface 274 (.agg #[X (V ⟨16,159,Y⟩)])):=by rw[World.cell?_alloc_lt _ _ ⟨7,0,Y⟩ (by simp;omega),World.cell?_alloc_lt _ _ ⟨7,0,Y⟩ f];exact g
 have b:t.block<w.heap.size:=World.block_lt_of_cell? _ _ a;have z:=Tryz.Lg ⟨w.heap.size,0,Y⟩ t (((w.alloc (I #[X (V t)] 242)).alloc (I #[X (V ⟨16,242,Y⟩),X (V ⟨w.heap.size,0,Y⟩),Z .u64 150] 286)).alloc (I #[X (V ⟨16,242,Y⟩),X (V ⟨w.heap.size,0,Y⟩),Z .u64 150] 286)) (by rw[World.cell?_alloc_lt _ _ ⟨w.heap.size,0,Y⟩ (by simp;omega)];simp);have N:=Tryz.Pg t ⟨w.heap.size+1+1+1,0,Y⟩ e c ((((w.alloc (I #[X (V t)] 242)).alloc (I #[X (V ⟨16,242,Y⟩),X (V ⟨w.heap.size,0,Y⟩),Z .u64 150] 286)).alloc (I #[X (V ⟨16,242,Y⟩),X (V ⟨w.heap.size,0,Y⟩),Z .u64 150] 286)).alloc (I #[X (V e)] 231)) (by rw[World.cell?_alloc_at _ _ _ _ (by simp)];rfl) (by rw[World.cell?_alloc_lt _ _ t (by simp;omega),World.cell?_alloc_lt _ _ t (by simp;omega),World.cell?_alloc_lt _ _ t (by simp;omega),World.cell?_alloc_lt _ _ t b];exact a) (by rw[World.frozen?_alloc_old _ _ t (by simp;omega),World.frozen?_alloc_old _ _ t (by simp;omega),World.frozen?_alloc_old _ _ t (by simp;omega),World.frozen?_alloc_old _ _ t (Nat.ne_of_lt b)];exact d);go_enter func156,ntmps156;go_wp2;refine wp_loop_rounds 1 ?_;rw[rounds_succ];go_wp2;go_ret;exact⟨rfl,rfl⟩
structure gK(w:ab):Prop where
 sum:∃a:Addr,w.cell? ⟨0,0,Y⟩=V (.iface 335 (X (V a)))/\(∃ca ta,w.heap[a.block]?=V (I ca ta (0,0)))/\∀g,dV g->∃c:Addr,w.cell? ⟨g,0,Y⟩=V (.iface 335 (X (V c)))/\c≠a/\∃ca ta,w.heap[c.block]?=V (I ca ta (0,0))
 type:w.cell? ⟨7,0,Y⟩=V (.iface 274 (.agg #[X (V ⟨16,159,Y⟩)]))
 turns:cM w
theorem jB{c:ab}{k:Nat}(h:∃a b,w.heap[k]?=V (I a b (0,0)))(d:aa n_ w c):∃a b,c.heap[k]?=V (I a b (0,0)):=by obtain⟨a,b,h⟩:=h;exact⟨a,b,(d.block k (lg h) id).trans h⟩
theorem gK.ai{d:ab}(h:gK w)(b:aa n_ w d):gK d:=by obtain⟨⟨a,j,k,l⟩,m,n⟩:=h;refine⟨⟨a,b.cell j id,jB k b,λg o=>?_⟩,b.cell m id,n.ai b id⟩;obtain⟨c,e,f,i⟩:=l g o;exact⟨c,b.cell e id,f,jB i b⟩
theorem gK.Qe(h:gK w):eQ w:=λg e=>by obtain⟨⟨a,-,-,d⟩,-,-⟩:=h;obtain⟨c,b,-⟩:=d g e;exact⟨_,_,b⟩
theorem gK.zero(h:gK w):oR w 0:=by obtain⟨⟨a,b,-⟩,-,-⟩:=h;exact⟨_,_,b⟩
theorem gK.zc(h:gK w):∀g,2<=g->g<=6->oR w g:=λg a b=>h.Qe g (by unfold dV;omega)
theorem CU(b p:Nat)(x:ax)(w:ab)(j:gK w)(d:w.heap[b]?=V (I #[Z U (p:Nat),x] 233 (0,0))):ba prog 99 #[.iface 231 (X (V ⟨b,0,Y⟩))] w λe a=>e=ay (Z U (p:Nat))/\aa n_ w a:=by
 have f:=(lg d);have i:QS (ba prog 156 #[.iface 231 (X (V ⟨b,0,Y⟩)),.iface 242 (X (V ⟨w.heap.size,0,Y⟩))] (w.alloc (I #[X Y] 231)) λe a=>e=ay (ao true)/\a.cell? ⟨w.heap.size,0,Y⟩=V (X (V ⟨b,0,Y⟩))/\a.cell? ⟨b,0,Y⟩=V (Z U (p:Nat))/\aa n_ w a):=by
  have g:=az w (I #[X Y] 231);have n:=aa.alloc n_ w (I #[X Y] 231);refine(Lj ⟨b,0,Y⟩ ⟨w.heap.size,0,Y⟩ (X Y) _ (n.cell j.type id) (ae g 0) (aj g 0)).mono ?_;rintro e a ⟨rfl,l⟩;have c:aa n_ w a:=by rw[l];exact((((((aa.refl n_ w).al (I #[X Y] 231)).al _).al _).al _).al _).trans (aa.setCell _ ⟨w.heap.size,0,Y⟩ (X (V ⟨b,0,Y⟩))) (λk s e=>by have r:k=w.heap.size:=e;omega)
  refine⟨rfl,?_,c.cell (ae d 0) id,c⟩;rw[l];exact World.cell?_setCell_same _ _ _ (((((aa.refl n_ _).al _).al _).al _|>.al _).cell (ae g 0) id)
 clear j d f;go_enter func99,ntmps99;go_wp2_with fail;refine i.o.mono ?_;rintro e t ⟨rfl,o,q,c⟩;have m:=E c;clear i c;go_wp2;go_ret;exact⟨rfl,m.o⟩
def nI(x:sS)(w:ab)(e:Ending)(c:ab):Prop:=(match x with
 |none=>e=ay (bt #[eC,Z U 0,Z U 7])
 |some (.inl p)=>e=ay (bt #[eC,Z U (p:Nat),Z U 6])
 |some (.inr s)=>∃b a,e=ay (bt #[.agg #[ao s.full,Z U (s.a:Nat),Z U (s.b:Nat),J b s.aW.length a],Z U 0,Z U 0])/\Row c 70 3 (J b s.aW.length a) s.aW.length (cP (s.aW.map bX))/\∀g,(J b s.aW.length a).ownBlock=V g->w.heap.size<=g)/\aa n_ w c
theorem cr{c:Func}{p u y:Tmp}{d:cI}(h:c.results=#[.cell p d,.tmp u,.tmp y])(b:Array ax)(P:Program)(w:ab):(results c b).run P w=((asAddr (b.getD p undef)).run P w).andThen λa e=>((loadVar d a).run P e).andThen λv f=>.ok (bt #[v,b.getD u undef,b.getD y undef]) f:=by simp only[results,h];simp[Sem.run_bind,Result.andThen]
theorem jD(j:ByteArray)(w:ab)(H:j.size<=10000000000)(D:gK w):ba prog 42 #[O j] w (nI (cA j.data.toList) w):=by
 have k0:=aa.alloc n_ w (I #[ao false,Z U 0,Z U 0,J Y 0 0] 28);have q:=D.ai k0;have R:=E (MJ j (w.alloc (I #[ao false,Z U 0,Z U 0,J Y 0 0] 28)) H q.zero q.Qe q.turns);have L:=E q;have F:QS (qK (w.alloc (I #[ao false,Z U 0,Z U 0,J Y 0 0] 28)) w.heap.size):=az w _;have M:=E k0;generalize cA j.data.toList=a5 at*;obtain⟨W,S⟩:∃W,W=w.alloc (I #[ao false,Z U 0,Z U 0,J Y 0 0] 28):=⟨_,rfl⟩
 rw[<-S]at R L F M;have HW:=E S;have HZ:QS (w.heap.size<W.heap.size):=(lg F.o);clear H D q k0 S;go_enter func42,ntmps42;go_wp2_with fail;rw[<-HW.o];refine R.o.mono ?_;clear R;rcases a5 with _|p|s
 ·rintro e n ⟨⟨v,rfl,b,t,u,rfl,T,C,z⟩,l⟩;obtain⟨⟨a,B,-,-⟩,-,-⟩:=L.o;rw[B]at z;simp only[vv,Value.iface.injEq]at z;obtain⟨rfl,rfl⟩:=z;have f:aa n_ n (n.alloc (I #[ao false,Z U 0,Z U 0,J Y 0 0] 28)):=(aa.refl _ _).al _;have d:=(F.o.ai l id).ai f id;obtain⟨a0,a1,a2,a3,b0,b1,b2,b3,s0,s1,s2,s3⟩:=d.facts;have g0:=f.cell (l.cell B id) id;have N:=E (Pw b a (n.alloc (I #[ao false,Z U 0,Z U 0,J Y 0 0] 28)) (f.cell (ae C 1) id));have o:=E ((M.o.tr l i_).tr f i_);clear f d l B C T;unfold eC;go_wp2_with(go_at_call 98;go_must(refine N.o.mono ?_;rintro e w3 ⟨rfl,rfl⟩))
  refine bodyPost_ret (v:=bt #[eC,Z U 0,Z U 7]) ?_ rfl ?_
  ·unfold eC;rw[cr rfl];go_simp
  ·exact⟨rfl,o.o⟩
 ·rintro e n ⟨⟨v,rfl,b,t,u,g,rfl,T,C,hn,z⟩,l⟩;obtain⟨⟨a,B,h2,h3⟩,-,-⟩:=L.o;obtain⟨c,c1,c2,c3⟩:=h3 g hn;rw[c1]at z;simp only[vv,Value.iface.injEq]at z;obtain⟨rfl,rfl⟩:=z;have f:aa n_ n (n.alloc (I #[ao false,Z U 0,Z U 0,J Y 0 0] 28)):=(aa.refl _ _).al _;have d:=(F.o.ai l id).ai f id;have g0:=f.cell (l.cell B id) id;obtain⟨ca,ta,d1⟩:=jB (jB c3 l) f;obtain⟨cb,tb,d2⟩:=jB (jB h2 l) f;have y:=(f.block b (lg C) id).trans C;have N:=E (Fg b a c ca cb ta tb (n.alloc (I #[ao false,Z U 0,Z U 0,J Y 0 0] 28)) (ae y 1) c2 d1 d2);have HP:=E (CU b p _ (n.alloc (I #[ao false,Z U 0,Z U 0,J Y 0 0] 28)) ((L.o.ai l).ai f) y);have x:=E d;have o:=E ((M.o.tr l i_).tr f i_);clear f d l B h2 h3 C T c1 c2 c3 d1 d2 y;unfold eC;go_wp2_with(first
   |(go_at_call 98;go_must(refine N.o.mono ?_;rintro e w3 ⟨rfl,rfl⟩))
   |(go_at_call 99;go_must(refine HP.o.mono ?_;rintro e w4 ⟨rfl,k4⟩;obtain⟨a0,a1,a2,a3,b0,b1,b2,b3,s0,s1,s2,s3⟩:=(x.o.ai k4 id).facts;have P:=E (o.o.tr k4 i_);clear k4)))
  refine bodyPost_ret (v:=bt #[eC,Z U (p:Nat),Z U 6]) ?_ rfl ?_
  ·unfold eC;rw[cr rfl];go_simp
  ·exact⟨rfl,P.o⟩
 ·rintro e n ⟨⟨A,m,rfl,K,r⟩,l⟩;have Q:QS (∀g,(J A 0 m).ownBlock=V g->w.heap.size<=g):=λg D=>mA (SI HZ.o) (r g ((qj A _ 0 m).trans D));obtain⟨a6,hX⟩:∃a6,a6=n.alloc (I #[ao s.full,Z U (s.a:Nat),Z U (s.b:Nat),J A s.aW.length m] 28):=⟨_,rfl⟩
  have f:aa n_ n (n.alloc (I #[ao s.full,Z U (s.a:Nat),Z U (s.b:Nat),J A s.aW.length m] 28)):=(aa.refl _ _).al _;have d:=(F.o.ai l id).ai f id;have x:=E d;have G:=E (K.ai f k_);have o:=E ((M.o.tr l i_).tr f i_);obtain⟨a0,a1,a2,a3,b0,b1,b2,b3,-,-,-,-⟩:=d.facts;clear hX a6 f d K l r;generalize hlen:s.aW.length=a4 at*;go_wp2;refine bodyPost_ret (v:=bt #[.agg #[ao s.full,Z U (s.a:Nat),Z U (s.b:Nat),J A a4 m],Z U 0,Z U 0]) ?_ rfl ?_
  ·rw[cr rfl];go_simp
  ·refine⟨⟨A,m,by rw[hlen],?_,λg D=>Q.o g ((qj A 0 _ m).trans D)⟩,o.o.trans (fw _ w.heap.size _ _ _ _) (λk hk e=>by have e':k=w.heap.size:=e;omega)⟩;rw[hlen];exact G.o.ai (fw _ w.heap.size _ _ _ _) (λi hi e=>(G.o.aR hi).ne (e':=28) (by decide) ⟨_,(show i=w.heap.size from e)▸x.o⟩)
theorem eP(e:Int)(w:ab):ba prog 20 #[Z U e] w λr a=>r=ay (Z U e)/\a=w:=by go_enter func20,ntmps20;go_wp2;go_ret;exact⟨rfl,rfl⟩
theorem DJ(a:ab)(x y z:Int):∃s:ByteArray,s.size=3/\∀W,W.heap=(a.alloc (I #[Z .u8 x,Z .u8 y,Z .u8 z] 5)).heap->(convert 219 9 (J (V ⟨a.heap.size,0,Y⟩) 3 3)).run prog W=.ok (O s) W:=by
 refine⟨[x,y,z].foldl (λr n=>r.push (UInt8.ofNat n.toNat)) ByteArray.empty,rfl,λW b=>?_⟩;rw[run_convert_bytes_string W _ _ 5 _ _ _ Tryz.underlying219 Tryz.underlying5 Tryz.underlying9];refine run_bytesToString W _ 3 3 [x,y,z] ?_;have h:=run_loadCells_list (P:=prog) (w:=W) ⟨a.heap.size,0,Y⟩ ([x,y,z].map (Z .u8)) (λj v d=>by
  rw[Addr.add_lit,tA];have c:W.heap[a.heap.size]?=V (I #[Z .u8 x,Z .u8 y,Z .u8 z] 5 (0,0)):=by rw[b];exact az a _
  rw[ae c];simpa using d)
 exact h
theorem CB(b:Nat)(g f i j:ax)(a:Int)(w:ab)(h:w.heap[b]?=V (I #[g,f,i,j,Z U a] 47 (0,0)))(t:0<=a)(u:a<1000000000000):ba prog 105 #[X (V ⟨b,0,Y⟩)] w λe n=>∃m,e=ay (O m)/\aa (·=b) w n/\n.heap[b]?=V (I #[g,f,i,j,Z U (a+1)] 47 (0,0)):=by
 have o:w.cell? ⟨b,4,Y⟩=V (Z U a):=ae h 4;have p:=aj h 4;have d:QS ((w.setCell ⟨b,4,Y⟩ (Z U (a+1))).heap[b]?=V (I #[g,f,i,j,Z U (a+1)] 47 (0,0))):=(ak h _).trans (by simp);clear h;go_enter func105,ntmps105;go_wp2_with fail;have c:QS (aa (λk=>k=b) w (w.setCell ⟨b,4,Y⟩ (Z U (a+1)))):=E (aa.setCell w ⟨b,4,Y⟩ _);generalize w.setCell ⟨b,4,Y⟩ (Z U (a+1))=w1 at*;have r:w1.cell? ⟨b,4,Y⟩=V (Z U (a+1)):=ae d.o 4;clear o p;obtain⟨s,q,l⟩:=DJ w1 ((a+1)%256) ((a+1)/256%256) ((a+1)/65536%256);have v:=l (w1.alloc (I #[Z .u8 ((a+1)%256),Z .u8 ((a+1)/256%256),Z .u8 ((a+1)/65536%256)] 5)).drew rfl;clear l;go_region;all_goals
  go_wp2;go_ret;refine⟨_,rfl,(c.o.al _).dr,?_⟩;exact((aa.alloc n_ w1 _).block b (lg d.o) id).trans d.o
def jA(c:Nat):Nat:=if c%2=1 then(c/2)^^^3988292384 else c/2
def BM:Nat->Nat->Nat
 |0,c=>c
 |n+1,c=>jA (BM n c)
theorem NK{c:Nat}(h:c<4294967296):jA c<4294967296:=by
 unfold jA;split
 ·exact xor_lt32 (by omega) (by omega)
 ·omega
theorem GG{c:Nat}(h:c<4294967296):∀n,BM n c<4294967296
 |0=>h
 |n+1=>NK (GG h n)
theorem vP(a b:Nat):jA (a^^^b)=jA a^^^jA b:=by
 have e:(a^^^b)/2=a/2^^^b/2:=Nat.xor_div_two;have f:(a^^^b)%2=(a%2)^^^(b%2):=Nat.xor_mod_two_pow (n:=1);unfold jA;rw[f,e];rcases Nat.mod_two_eq_zero_or_one a with c|c<;>rcases Nat.mod_two_eq_zero_or_one b with d|d<;>simp[c,d]
 ·rw[Nat.xor_assoc]
 ·rw[Nat.xor_assoc,Nat.xor_comm (b/2),<-Nat.xor_assoc]
 ·rw[show a/2^^^3988292384^^^(b/2^^^3988292384)=(a/2^^^b/2)^^^(3988292384^^^3988292384) by ac_rfl,Nat.xor_self,Nat.xor_zero]
def uF(e:Nat):Nat:=if e%2=1 then 3988292384 else 0
theorem uY(c:Nat):jA c=c/2^^^uF c:=by unfold jA uF;split<;>simp
theorem rB(h:a%2=b%2):uF a=uF b:=by unfold uF;rw[h]
theorem KG:∀i:Fin 16,oD i.val=uF (i.val/8)^^^jA (uF (i.val/4))^^^jA (jA (uF (i.val/2)))^^^jA (jA (jA (uF i.val))):=by decide
theorem yV(c:Nat):jA (jA (jA (jA c)))=tf c:=by
 have h:=KG ⟨c%16,by omega⟩;simp only at h;unfold tf;rw[h];rw[rB (show c%16/8%2=c/8%2 by omega),rB (show c%16/4%2=c/4%2 by omega),rB (show c%16/2%2=c/2%2 by omega),rB (show c%16%2=c%2 by omega)];have a:jA (c/2)=c/4^^^uF (c/2):=by rw[uY,show c/2/2=c/4 by omega]
 have b:jA (c/4)=c/8^^^uF (c/4):=by rw[uY,show c/4/2=c/8 by omega]
 have d:jA (c/8)=c/16^^^uF (c/8):=by rw[uY,show c/8/2=c/16 by omega]
 rw[uY c];simp only[vP];rw[a];simp only[vP];rw[b];simp only[vP];rw[d];ac_rfl
theorem IS(c:Nat):BM 8 c=tf (tf c):=by rw[<-yV,<-yV];rfl
theorem xor_i64(e:a<4294967296)(f:b<4294967296):bits .xor U (a:Int) (b:Int)=((a^^^b:Nat):Int):=by
 have g:a^^^b<2^32:=Nat.xor_lt_two_pow (by omega) (by omega);have c:(BitVec.ofInt 64 (a:Int)).toNat=a:=by rw[Tq,Tf];exact Sc (by omega)
 have d:(BitVec.ofInt 64 (b:Int)).toNat=b:=by rw[Tq,Tf];exact Sc (by omega)
 show IntKind.i64.wrap ((BitVec.ofInt 64 (a:Int)^^^BitVec.ofInt 64 (b:Int)).toNat:Int)=_;rw[BitVec.toNat_xor,c,d,IntKind.wrap_i64];omega
theorem iy(s:ByteArray)(w:ab)(hs:s.size<=maxLen):ba prog 100 #[O s] w λe w'=>e=ay (O (aU (bM s.data.toList)))/\aa n_ w w':=by
 have F:QS (∀k,lP 4294967295 (s.data.toList.take k)<4294967296):=λk=>vf _ (by omega);have M:QS (∀k,¬k<s.size->4294967295-lP 4294967295 (s.data.toList.take k)=lz 0 s.data.toList):=λk t=>by rw[ep (by simp;omega)];rfl
 have L:QS (∀k,(t:k<s.size)->lP 4294967295 (s.data.toList.take (k+1))=BM 8 (lP 4294967295 (s.data.toList.take k)^^^s[k].toNat)):=λk t=>by rw[IS];exact yW t
 obtain⟨R,C⟩:∃R,R=aU (bM s.data.toList):=⟨_,rfl⟩
 rw[<-C];have N:=E C;unfold maxLen at hs;clear C;go_enter func100,ntmps100;go_wp2_with fail;go_loopw [3,4] (λz i wr=>∃k:Nat,k<=s.size/\i=Z U k/\z=Z U (lP 4294967295 (s.data.toList.take k):Nat)/\wr=w) (λ_ i _=>s.size-(intOf i).toNat)
 case atStart=>exact⟨0,eL _,rfl,rfl,rfl⟩
 case round=>
  obtain⟨k,t,rfl,rfl,rfl⟩:=hrel;by_cases h:k<s.size
  ·have g:=F.o k;have B:=E (L.o k h);generalize lP 4294967295 (s.data.toList.take k)=x at*;have p:s[k].toNat<256:=TJ _;have H:x^^^s[k].toNat<4294967296:=xor_lt32 g (by omega);have e1:bits BinOp.xor U (x:Int) (s[k].toNat:Int)=((x^^^s[k].toNat:Nat):Int):=xor_i64 g (by omega);have P:=E H;have m:=E h;generalize x^^^s[k].toNat=y at*;have S:(s[k].toNat:Int)<256:=by omega
   have hw:wrap64 (s[k].toNat:Int)=s[k].toNat:=by unfold wrap64;omega
   clear g p H;go_wp2_with fail;go_loopw [3,5] (λz i wq=>∃j:Nat,j<=8/\i=Z U j/\z=Z U (BM j y:Nat)/\wq=wr) (λ_ i _=>8-(intOf i).toNat)
   case atStart=>exact⟨0,by omega,rfl,rfl,rfl⟩
   case round=>
    obtain⟨j,hj,rfl,rfl,rfl⟩:=hrel;have v:=GG P.o j;have d:BM (j+1) y=jA (BM j y):=rfl;have l:=E d;by_cases r:j<8
    ·have a0:(j:Int)<8:=by omega
     generalize BM j y=z at*;have a2:(z:Int)<4294967296:=by omega
     by_cases f:z%2=1
     ·have D:(z:Int)%2=1:=by omega
      have e2:bits BinOp.xor U ((z:Int)/2) 3988292384=((jA z:Nat):Int):=by have:=xor_i64 (a:=z/2) (b:=3988292384) (by omega) (by omega);unfold jA;rw[fy f,<-this];rfl
      clear d f v;go_wp2;exact⟨⟨j+1,r,by go_num,by rw[l.o],trivial⟩,by simp only[intOf];omega⟩
     ·have D:(z:Int)%2=0:=by omega
      have K:QS (((z:Int)/2)=((jA z:Nat):Int)):=by show _=_;unfold jA;rw[el f];rfl
      clear d f v;go_wp2;exact⟨⟨j+1,r,by go_num,by rw[l.o,<-K.o],trivial⟩,by simp only[intOf];omega⟩
    ·have Q:j=8:=by omega
     subst Q;clear d l;go_wp2;exact⟨⟨k+1,m.o,by go_num,by rw[B.o],trivial⟩,by simp only[intOf];have:=m.o;omega⟩
  ·have o:=E (M.o k h);have g:=F.o k;generalize lP 4294967295 (s.data.toList.take k)=x at*;obtain⟨c,G⟩:∃c:Nat,c=4294967295-x:=⟨_,rfl⟩
   have T:(4294967295:Int)-x=(c:Int):=by omega
   have W:(c:Int)<4294967296:=by omega
   have A:QS (c=lz 0 s.data.toList):=by show _=_;rw[G,o.o]
   have p:=yT wr [(c:Int)/16777216,(c:Int)/65536%256,(c:Int)/256%256,(c:Int)%256];have e:([(c:Int)/16777216,(c:Int)/65536%256,(c:Int)/256%256,(c:Int)%256].map λn=>UInt8.ofNat n.toNat)=tR c:=by
    have q0:((c:Int)/16777216).toNat=c/16777216:=by omega
    have q1:((c:Int)/65536%256).toNat=c/65536%256:=by omega
    have q2:((c:Int)/256%256).toNat=c/256%256:=by omega
    have q3:((c:Int)%256).toNat=c%256:=by omega
    simp only[mU,RY,q0,q1,q2,q3];rfl
   rw[e]at p;have q:=p (wr.alloc (I #[Z .u8 ((c:Int)/16777216),Z .u8 ((c:Int)/65536%256),Z .u8 ((c:Int)/256%256),Z .u8 ((c:Int)%256)] 5)) rfl;simp only[fN,pa,tA,Nat.reduceAdd]at q;have u:aU (tR c)=R:=by rw[N.o,A.o];rfl
   rw[u]at q;have a1:¬((k:Int)<s.size):=by omega
   clear p e G o g h u t;go_upto_region 14 with(fail)
   go_wp2_with fail;go_ret;exact⟨rfl,(aa.refl _ _).al _⟩
theorem rF{W:ab}{g:Nat}{n:Int}(h:W.heap[g]?=V (I #[Z .u8 n] 5 (0,0)))(c:0<=n/\n<256):(convert 219 9 (J (V ⟨g,0,Y⟩) 1 1)).run prog W=.ok (O (aU [UInt8.ofNat n.toNat])) W:=by
 have:=run_convert_bytes_back (P:=prog) W 219 9 5 ⟨g,0,Y⟩ 1 [UInt8.ofNat n.toNat] Tryz.underlying219 Tryz.underlying5 Tryz.underlying9 (λj b=>by
  have e:j=0:=by simpa using b
  subst e;rw[Addr.add_lit,tA,ae h 0];have a:([UInt8.ofNat n.toNat][0].toNat:Int)=n:=by show((UInt8.ofNat n.toNat).toNat:Int)=n;rw[toNat_ofNat (by omega)];omega
  rw[a];rfl)
 exact this
theorem di:∀(f n:Nat) (w:ab),n<128^(f+1)->n<4611686018427387904->ba prog 151 #[Z U (n:Nat)] w λe j=>e=ay (O (aU (bf n)))/\aa n_ w j:=by
 intro f;induction f with
 |zero=>
  intro n w h _;have a:(n:Int)<128:=by simp at h;omega
  have p:=rF (az w (I #[Z .u8 (n:Int)] 5)) (by omega);have e:bf n=[UInt8.ofNat (n:Int).toNat]:=by rw[lu (by omega)];rfl
  rw[e];generalize aU [UInt8.ofNat (n:Int).toNat]=r at*;clear e h;go_enter func151,ntmps151;go_wp2;go_ret;exact⟨rfl,(aa.refl _ _).al _⟩
 |succ f ih=>
  intro n w h l;by_cases a:n<128
  ·have d:(n:Int)<128:=by omega
   have p:=rF (az w (I #[Z .u8 (n:Int)] 5)) (by omega);have e:bf n=[UInt8.ofNat (n:Int).toNat]:=by rw[lu a];rfl
   rw[e];generalize aU [UInt8.ofNat (n:Int).toNat]=r at*;clear e h ih l a;go_enter func151,ntmps151;go_wp2;go_ret;exact⟨rfl,(aa.refl _ _).al _⟩
  ·have d:¬((n:Int)<128):=by omega
   have u:(n:Int)<4611686018427387904:=by omega
   have c:QS (∀W,ba prog 151 #[Z U ((n:Int)/128)] W λe j=>e=ay (O (aU (bf (n/128))))/\aa n_ W j):=λW=>by have:=ih (n/128) W (by rw[Nat.pow_succ]at h;omega) (by omega);exact this
   have e:bf n=UInt8.ofNat (128+(n:Int)%128).toNat::bf (n/128):=by rw[qV a];congr 2;omega
   have t:=cj 9 (n/128) (by omega);have k:QS (∀W g,W.heap[g]?=V (I #[Z .u8 (128+(n:Int)%128)] 5 (0,0))->(convert 219 9 (J (V ⟨g,0,Y⟩) 1 1)).run prog W=.ok (O (aU [UInt8.ofNat (128+(n:Int)%128).toNat])) W):=λW g s=>rF s (by omega);have o:QS (aU [UInt8.ofNat (128+(n:Int)%128).toNat]++aU (bf (n/128))=aU (bf n)):=by show _=_;rw[bz,e];rfl
   have m:∀W,(Op.stringOp .add (aU [UInt8.ofNat (128+(n:Int)%128).toNat]) (aU (bf (n/128)))).run prog W=.ok (O (aU (bf n))) W:=λW=>by rw[<-o.o];exact run_string_add_sum W _ _ (by rw[bn,bn];simp;omega)
   have v:(n:Int).tmod 128=(n:Int)%128:=Int.tmod_eq_emod_of_nonneg (by omega);have x:IntKind.i64.wrap (128+(n:Int)%128)=128+(n:Int)%128:=IntWalk.i64_in _ ⟨by omega,by omega⟩;have y:IntKind.u8.wrap (128+(n:Int)%128)=128+(n:Int)%128:=by rw[IntKind.wrap_u8];omega
   have z:IntKind.i64.wrap ((n:Int)/128)=(n:Int)/128:=IntWalk.i64_in _ ⟨by omega,by omega⟩;have q:(convert 219 9 (J (V ⟨w.heap.size,0,Y⟩) 1 1)).run prog (w.alloc (I #[Z .u8 (128+(n:Int)%128)] 5)).drew=_:=rF (az w (I #[Z .u8 (128+(n:Int)%128)] 5)) (by omega);generalize aU [UInt8.ofNat (128+(n:Int)%128).toNat]=b1 at*;generalize aU (bf (n/128))=b2 at*;generalize aU (bf n)=b3 at*;clear e t h ih l a;go_enter func151,ntmps151;go_wp2_with fail;go_region_with(go_at_call 151;refine(c.o _).mono ?_;rintro e b ⟨rfl,i⟩;(try(have A:=k.o b w.heap.size ((i.block w.heap.size (by simp) id).trans (az w _))));have B:=k.o (b.alloc (I #[Z .u8 (128+(n:Int)%128)] 5)) b.heap.size (az b _))
   all_goals(go_wp2;go_ret;first|exact⟨rfl,((aa.refl _ w).dr.tr i i_).al _⟩|exact⟨rfl,((aa.refl _ w).al _).dr.tr i i_⟩)
theorem Ik(a b:ByteArray)(w:ab)(u:a.size<=maxLen):ba prog 185 #[O a,O b] w λe v=>e=ay (Z U (common a.data.toList b.data.toList:Nat))/\aa n_ w v:=by
 have g:QS (∀k,k<common a.data.toList b.data.toList->∃(l:k<a.size) (m:k<b.size),a[k]=b[k]):=λk s=>by obtain⟨l,m,f⟩:=sZ _ _ k s;exact⟨by simpa using l,by simpa using m,by simp only[Tr]at f;exact f⟩
 have j:QS (common a.data.toList b.data.toList=a.size\/common a.data.toList b.data.toList=b.size\/∃(l:common a.data.toList b.data.toList<a.size) (m:common a.data.toList b.data.toList<b.size),a[common a.data.toList b.data.toList]≠b[common a.data.toList b.data.toList]):=by
  rcases pC a.data.toList b.data.toList with h|h|⟨l,m,f⟩
  ·exact .inl (by simpa using h)
  ·exact .inr (.inl (by simpa using h))
  ·exact .inr (.inr ⟨by simpa using l,by simpa using m,by simp only[Tr,ne_eq]at f;exact f⟩)
 have o:QS (common a.data.toList b.data.toList<=a.size/\common a.data.toList b.data.toList<=b.size):=by have:=jC a.data.toList b.data.toList;show _/\_;simpa using this
 generalize common a.data.toList b.data.toList=c at*;unfold maxLen at u;go_enter func185,ntmps185;go_wp2_with fail;go_loopw [5] (λi wr=>∃k:Nat,k<=c/\i=Z U k/\aa n_ w wr) (λi _=>c-(intOf i).toNat)
 case atStart=>exact⟨0,eL _,rfl,aa.refl _ _⟩
 case round=>
  obtain⟨k,s,rfl,q⟩:=hrel;have d:=E q;clear q;by_cases n:k<c
  ·obtain⟨l,m,f⟩:=g.o k n;have r:decide (k<a.size)=true:=mI (by omega);have t:decide (k<b.size)=true:=mI (by omega);go_wp2_with fail;go_quiet(fail);go_wp2;exact⟨⟨k+1,by omega,by go_num,d.o.lU _⟩,by simp only[intOf];omega⟩
  ·have e:k=c:=by omega
   subst e;rcases j.o with h|h|⟨l,m,f⟩
   ·have r:decide (k<a.size)=false:=kg (by omega);go_wp2_with fail;go_quiet(fail);go_wp2;go_ret;exact⟨rfl,d.o.lU _⟩
   ·by_cases p:k<a.size
    ·have r:decide (k<a.size)=true:=mI (by omega);have t:decide (k<b.size)=false:=kg (by omega);clear h p j o g n s;go_wp2_with fail;go_quiet(fail);go_wp2;go_ret;exact⟨rfl,d.o.lU _⟩
    ·have r:decide (k<a.size)=false:=kg (by omega);clear h p j o g n s;go_wp2_with fail;go_quiet(fail);go_wp2;go_ret;exact⟨rfl,d.o.lU _⟩
   ·have r:decide (k<a.size)=true:=mI (by omega);have t:decide (k<b.size)=true:=mI (by omega);have x:¬a[k].toNat=b[k].toNat:=λe=>f (UInt8.toNat_inj.1 e);go_wp2_with fail;go_quiet(fail);go_wp2;go_ret;exact⟨rfl,d.o.lU _⟩
theorem wF(s:ByteArray)(w:ab)(a:s.size<=maxLen):ba prog 69 #[O s] w λe b=>e=ay (ao (dw s))/\b=w:=by
 unfold maxLen at a;go_enter func69,ntmps69;go_wp2;all_goals go_ret
 all_goals
  refine⟨cR ?_,rfl⟩;unfold dw;rw[QT];simp;omega
theorem sg(s:ByteArray)(w:ab)(a:s.size<=maxLen):ba prog 73 #[O s] w λe b=>e=ay (ao (fM s))/\b=w:=by
 unfold maxLen at a;go_enter func73,ntmps73;go_wp2;all_goals go_ret
 refine⟨cR ?_,rfl⟩;unfold fM;rw[QT];simp;omega
theorem Da(d:Bool)(a b:Nat)(v:ax)(w:ab)(F:a<=1000000000)(G:b<=1000000000)(s:∃t n c,v=J t n c):ba prog 149 #[.agg #[ao d,Z U (a:Nat),Z U (b:Nat),v]] w λe K=>e=ay (O (aU (cS d a b)))/\aa n_ w K:=by
 obtain⟨t,n,c,rfl⟩:=s;have y:=cj 8 a (by omega);have z:=cj 8 b (by omega);have j:=E (λW=>di 8 a W (by omega) (by omega));have k:=E (λW=>di 8 b W (by omega) (by omega));have H:(aU (gg d)).size=4:=zf d;have u:QS (aU (cS d a b)=aU (gg d)++aU (bf a)++aU (bf b)):=by show _=_;unfold cS;rw[bz,bz]
 rw[u.o];have N:(aU (bf a)).size<=9:=by rw[bn];exact y
 have P:(aU (bf b)).size<=9:=by rw[bn];exact z
 generalize aU (bf a)=t1 at*;generalize aU (bf b)=t2 at*;have l:∀W,(Op.stringOp .add (aU (gg d)) t1).run prog W=.ok (O (aU (gg d)++t1)) W:=λW=>run_string_add_sum W _ _ (by omega);have m:∀W,(Op.stringOp .add (aU (gg d)++t1) t2).run prog W=.ok (O (aU (gg d)++t1++t2)) W:=λW=>run_string_add_sum W _ _ (by rw[nW];omega);have i:QS (∀W,aa n_ (w.alloc (I #[ao d,Z U (a:Nat),Z U (b:Nat),J t n c] 28)) W->W.cell? ⟨w.heap.size,1,Y⟩=V (Z U (a:Nat))/\W.cell? ⟨w.heap.size,2,Y⟩=V (Z U (b:Nat))):=λW x=>⟨ae (bO x id) 1,ae (bO x id) 2⟩;clear y z N P H F G u;cases d with
 |true=>
  have q:aU (gg true)=⟨#[65,78,78,70]⟩:=rfl;rw[q]at l m⊢;go_enter func149,ntmps149;go_wp2_with fail;go_region_held3(λW=>W.cell? ⟨w.heap.size,1,Y⟩=V (Z U (a:Nat))/\W.cell? ⟨w.heap.size,2,Y⟩=V (Z U (b:Nat))) (go_keep) (first
   |(go_at_call 151;have r:=f.o;clear r;refine(k.o _).mono ?_;rintro e M ⟨rfl,p⟩;have g:=E (f.o.tr p i_);obtain⟨C,D⟩:=i.o _ g.o;clear p)
   |(go_at_call 151;refine(j.o _).mono ?_;rintro e L ⟨rfl,o⟩;have f:=E ((aa.drew n_ _).tr o i_);obtain⟨A,B⟩:=i.o _ f.o;clear o))
  go_wp2;go_ret;exact⟨rfl,((aa.refl _ w).al _).tr g.o i_⟩
 |false=>
  have q:aU (gg false)=⟨#[65,78,78,68]⟩:=rfl;rw[q]at l m⊢;go_enter func149,ntmps149;go_wp2_with fail;go_region_held3(λW=>W.cell? ⟨w.heap.size,1,Y⟩=V (Z U (a:Nat))/\W.cell? ⟨w.heap.size,2,Y⟩=V (Z U (b:Nat))) (go_keep) (first
   |(go_at_call 151;have r:=f.o;clear r;refine(k.o _).mono ?_;rintro e M ⟨rfl,p⟩;have g:=E (f.o.tr p i_);obtain⟨C,D⟩:=i.o _ g.o;clear p)
   |(go_at_call 151;refine(j.o _).mono ?_;rintro e L ⟨rfl,o⟩;have f:=E ((aa.drew n_ _).tr o i_);obtain⟨A,B⟩:=i.o _ f.o;clear o))
  go_wp2;go_ret;exact⟨rfl,((aa.refl _ w).al _).tr g.o i_⟩
end Go.Proofs.YtjbkfdeldlajhaaGreatDoor
