/- Own. -/
import Derived.Deep.CutRange
import Derived.Test.YtmeiikjpaepogaaGreatDoorD20
open Option renaming some->O,none->X
open Bool renaming true->Y,false->Z
open Go.Value renaming int->I,slice->S,pointer->A,bool->Bl,string->Sr,tuple->Tu,agg->Ag
open Go.Obj renaming cells->C
open Go.Ending renaming returned->Rt
open Go.IntKind renaming i64->J
set_option maxRecDepth 100000
set_option maxHeartbeats 16000000
namespace Go.Proofs.YtmeiikjpaepogaaGreatDoor
open Go Go.RowKit Go.Proofs.Tryz List
theorem sZ {P:Program} {w:YW} {ops:Array Oper} {rest:List Oper} {o:Oper} {a:Act} {Q:Exit→Act→World→Prop} (hgd:o.guard=X) (s x:Operand) (t:TypeId) (ho:o.op=.call { callee:=.builtin .append,args:=#[s,x],argTypes:=#[t,t] }) (base:Nat) (e:TypeId) (i:TypeInfo) (z:Value) (size bytes:Nat) (ht:P.underlying t=O (.slice e)) (hi:P.info? e=O i) (hz:i.zero=O z) (hsize:i.size=size) (hby:i.bytes=bytes) (hzs:z.cells.size=size) (hsz:0<size) (v:Value) (n:Nat) (xs:List Value) (hs:a.eval s=v) (hown:w.ownsRow base e size v n xs) (u:Value) (b2 m:Nat) (news:List Value) (hx:a.eval x=u) (hu:w.ownsRow b2 e size u m news) (h1:∀ u∈news,u.oneCell'=Y) (h63:n+m≤maxLen) (hbytes:(n+m) * bytes≤140737488355328) (hbase:base≤w.heap.size) (h:∀ v' w',w'.ownsRow base e size v' (n+m) (xs++news)→w.grownBy w' v.ownBlock→wpList P ops Q rest (a.put o.dst v') w') : wpList P ops Q (o :: rest) a w:=by
 refine wpList_plain hgd fun K hK=>?_;obtain⟨ao,c,hv⟩:=zu hu;subst hv;cases ao with
 |none=>
  have hm:m=0∧news=[]:=by rcases hu.2 with ⟨e1,e2⟩|⟨g,cap,cur,e1,_⟩;simp only[Zk,true_and]at e1;have hl:=hu.1;rw[e1.1]at hl;exact⟨e1.1,by simpa using hl⟩;simp at e1
  obtain⟨rfl,rfl⟩:=hm;have hc:=Fy hu;subst hc;have hrun:=run_append_owned_none (P:=P) (w:=w) base t o.type e i size ht hi v n xs hown;unfold Oper.wp execOp;simp only[ho,resolve,invoke,builtin,Sem.run_bind,Sem.run_pure,Result.andThen_ok,map_toArray,map_cons,map_nil,hs,hx,hrun];exact hK _ _ (h v w (by rw[append_nil,Nat.add_zero];exact hown) (World.grownBy.refl _ _))
 |some ad=>
  obtain⟨g,rfl⟩:∃ g,ad=⟨g,0,X⟩:=by rcases hu.2 with ⟨e1,_⟩|⟨g,cap,cur,e1,_⟩;simp at e1;simp only[Zk,Zs]at e1;exact⟨g,e1.1⟩
  obtain⟨v',w',hr,h2,h3,_⟩:=run_append_own (P:=P) w base t o.type e i z size bytes ht hi hz hsize hby hzs hsz v n xs hown ⟨g,0,X⟩ m c news hu.1 (ov hu) h1 h63 hbytes hbase;unfold Oper.wp execOp;simp only[ho,resolve,invoke,builtin,Sem.run_bind,Sem.run_pure,Result.andThen_ok,map_toArray,map_cons,map_nil,hs,hx,hr];exact hK _ _ (h v' w' h2 h3)
theorem Qu(B d m:Nat)(vd vm:Value)(c0 c1:YL)(w:YW)(hd:Blk w d #[vd] 140)(hm:Blk w m #[vm] 140)(od:w.ownsRow B 65 2 vd c0.length (zc c0))(om:w.ownsRow B 65 2 vm c1.length (zc c1))(h0:c0.length<=4000)(h1:c1.length<=4000):Calls prog 79 #[A (O ⟨d,0,X⟩),A (O ⟨m,0,X⟩)] w fun e w'=>∃v,e=Rt v/\w'.ownsRow w.heap.size 65 2 v (c0.length+c1.length) (zc (c0++c1.map (qs c0.length)))/\Below w.heap.size w w':=by
 obtain⟨iI,x,c,f,g⟩:=info_parts yJ;obtain⟨ad,kd,E0⟩:=zu od;obtain⟨am,km,F0⟩:=zu om;subst E0;subst F0;have HN:=V (aK d c0.length ad kd w hd zo);have y0:=hd.u;have A0:=hm.u;obtain⟨wm,g0,j0,f0⟩:=run_make_own (P:=prog) w.drew w.heap.size 33 65 iI _ 2 underlying33 x c f .i64 .i64 (c0.length+c1.length) (by rw[g];omega) zm (Zc _);rw[Int.natCast_add]at g0;have K0:IntKind.i64.wrap ((c0.length:Int)+(c1.length:Int))=(c0.length:Int)+(c1.length:Int):=zw;have B0:=hd.lt;have i0:=hm.lt;have L:=V j0;have K:Hid (Below w.heap.size w wm):=Below.grown (Ze w.heap.size w).drew f0 (Zc _) (fun k a=>by cases a);have HD:=V hd;have HM:=V hm;have w0:=V od;have x0:=V om;have H0:(c0.length:Int)<=4000:=zo;have I0:(c1.length:Int)<=4000:=zo;clear hd hm od om j0 f0;go_enter func79,ntmps79;go_wp2_with fail;refine HN.m ?_;rintro e w2 ⟨rfl,hw⟩;obtain rfl:=hw.symm;clear hw HN;go_wp2;go_cut [6]from 9 to 46 (fun s6 wc=>∃v,s6=v/\wc.ownsRow w.heap.size 65 2 v 0 []/\Below w.heap.size w wc)
 case first=>go_region_law (fail);all_goals go_wp2;go_meet;exact⟨_,rfl,U L,U K⟩
 case rest=>
  obtain⟨v0,p0,l0,b⟩:=hcut;obtain rfl:=p0.symm;clear p0;have b0:=HD.z b B0;have e0:=HM.z b i0;have T:=b0.u;have W:=e0.u;have r0:wc.ownsRow B 65 2 (S ad c0.length kd) c0.length (zc c0):=yR w0 (fun k _ a=>b.block k a);have j:=V b;have q:=V l0;have o:=V r0;clear y0 A0 g0 L K b l0 r0 b0 e0;go_wp2_with (at_builtin;refine sZ rfl (.tmp 23) (.tmp 27) 33 rfl w.heap.size 65 iI _ 2 16 underlying33 x c f g rfl zd v0 0 [] zf q (S ad c0.length kd) B c0.length (zc c0) zf o (kP _) zm zo j.size ?_;intro v1 w1 m0 d0;have r:=j.grown d0 j.size (fun k a=>(zC q a).2);have a0:=(HM.z r i0).u;have M:=V m0;have H:=V r;clear m0 d0 r T W);go_loopw [6,34] (fun l i wr=>∃(k:Nat)(v:Value),l=v/\i=I J k/\k<=c1.length/\wr.ownsRow w.heap.size 65 2 v (c0.length+k) (zc (c0++(c1.take k).map (qs c0.length)))/\Below w.heap.size w wr) (fun _ i _=>c1.length-(intOf i).toNat);case atStart=>have:=U M;rw[Nat.zero_add,nil_append]at this;exact⟨0,v1,rfl,rfl,Zq _,by simpa using this,U H⟩
  case round=>
   clear M H a0 q j o;obtain⟨k,v,hv,rfl,a,ho,hb⟩:=hrel;obtain rfl:=hv.symm;clear hv;have HO:=V ho;have HB:=V hb;have h:wr.ownsRow B 65 2 (S am c1.length km) c1.length (zc c1):=yR x0 (fun k _ a=>hb.block k a);have J0:(k:Int)<=4000:=zo;by_cases D0:k<c1.length
   ·obtain⟨g5,L0,q0,_,u⟩:=h.form zo;simp only[Zk,true_and]at q0;obtain⟨rfl,rfl⟩:=q0;obtain⟨y,hy⟩:∃y,c1[k]? = O y:=⟨_,Za D0⟩;have D:=zD h (k*2) zo;have E:=zD h (k*2+1) zo;rw[(zL _ _ _ hy).1]at D;rw[(zL _ _ _ hy).2]at E;have HY:=V hy;have G0:(k:Int)<c1.length:=zo;obtain⟨y1,y2⟩:=y;clear ho hb h hy;simp only at D E;have n:=V (NP y1 y2 c0.length (wr.alloc (C #[I J y1,I J y2] 65)));generalize hz:qs (c0.length:Int) (y1,y2)=z at n;obtain⟨F,G⟩:=z;simp only at n;have HZ:=V hz;clear hz;go_wp2_with fail;refine n.m ?_;rintro e w3 ⟨rfl,Q⟩;have s:Below wr.heap.size wr w3:=((Ze _ _).alloc (Zc _) _).trans (yf Q zs);have t:Below wr.heap.size wr (w3.alloc (C #[I J F,I J G] 65)):=s.alloc s.size _;have n0:(w3.alloc (C #[I J F,I J G] 65)).ownsRow w.heap.size 65 2 v (c0.length+k) (zc (c0++(c1.take k).map (qs c0.length))):=yR HO (fun k _ a=>t.block k a);have N:=V n0;have p:=V (HB.trans (yf t HB.size));have k0:=Blk.new w3 #[I J F,I J G] 65;have t0:=V k0;clear Q s t n0 k0 n D E;go_wp2_with (at_builtin;refine wpList_append_own _ rfl (.tmp 38) (.tmp 42) 33 rfl w.heap.size 65 iI _ 2 16 underlying33 x c f g rfl zd v (c0.length+k) (zc (c0++(c1.take k).map (qs c0.length))) zf N ⟨w3.heap.size,0,X⟩ 1 1 [I J F,I J G] zf rfl (World.news_of_block t0) (by simp[Value.oneCell']) zm zo p.size ?_;intro v5 w5 o0 u _;have R:=p.grown u p.size (fun k a=>(zC N a).2);have u0:=V o0;have s0:=V R;clear o0 u R);go_roundw;case rel=>
     refine⟨k+1,v5,rfl,by go_num,zo,?_,U s0⟩;have:=U u0;rw[take_one _ _ _ (U HY),map_append,map_cons,map_nil,U HZ,<-Zy];have e:zc (c0++(c1.take k).map (qs c0.length)++[(F,G)])=zc (c0++(c1.take k).map (qs c0.length))++[I J F,I J G]:=by simp[zc]
     rw[e,<-Nat.add_assoc];exact this
    case measure=>exact zv
   ·have C0:k=c1.length:=zo;subst C0;clear ho hb h;go_wp2;go_ret;refine⟨v,rfl,?_,U HB⟩;have:=U HO;rw[take_length]at this;exact this
def lM(w:YW)(cs:YV)(op:Nat):Prop:=∃(pb q:Nat)(ps:YV),cs[op*5+4]? = O (.func (.func 123) #[] #[A (O ⟨pb,0,X⟩)])/\ps.toList=(yj op).map (Value.int .i64)/\Blk w q ps 3/\Blk w pb #[S (O ⟨q,0,X⟩) ps.size ps.size] 115
theorem lM.keep{w w':YW}{cs:YV}{op:Nat}(h:lM w cs op)(a:js w w'):lM w' cs op:=by obtain⟨f,q,g,b,c,d,e⟩:=h;exact⟨f,q,g,b,c,a _ _ _ d zd,a _ _ _ e zd⟩
theorem ri{cs:YV}{i j:Nat}(f:Value)(h:i≠j):(cs.setIfInBounds i f)[j]? = cs[j]?:=by rw[Array.getElem?_setIfInBounds_ne h]
theorem lM.other{w:YW}{cs:YV}{op k:Nat}(h:lM w cs op)(f:Value)(e:op≠k):lM w (cs.setIfInBounds (k*5+4) f) op:=by obtain⟨g,q,i,a,b,c,d⟩:=h;exact⟨g,q,i,by rw[ri f zo];exact a,b,c,d⟩
theorem bS.set{w:YW}{cs:YV}(h:bS w cs)(k:Nat)(m:40<=k/\k<60)(f:Value):bS w (cs.setIfInBounds (k*5+4) f):=by
 refine⟨by rw[Array.size_setIfInBounds];exact h.size,fun op j=>?_,fun op g i=>?_⟩
 ·obtain⟨F,cap,a,b,c,d,l,e⟩:=h.K op j;refine⟨F,cap,?_,?_,?_,?_,?_,e⟩;all_goals rw[ri f zo]
  all_goals assumption
 ·obtain⟨a,b,c,d⟩:=h.zero op g i;refine⟨?_,?_,?_,?_⟩;all_goals rw[ri f zo]
  all_goals assumption
def bu(w:YW)(tb:Nat):Prop:=∃cs,Blk w tb cs 112/\bS w cs/\∀op,40<=op->op<60->lM w cs op
theorem bu.ok{w w':YW}{m B:Nat}(h:bu w m)(c:Below w.heap.size w w')(hB:w.heap.size≤B)(R:Lib.TabBelow prog B w' "internal/strconv.uint64pow10" .u64 Lib.pow10Tab):sC B w' m:=by
 obtain⟨cs,o,r,M⟩:=h;have i:=o.lt;have a:=o.z c i;have Q:=c.size;refine⟨zo,fun b op P=>?_,fun op s u=>?_⟩;obtain⟨F,cap,d,e,f,g,D,⟨K,E,G,H⟩,bl,n,L⟩:=r.K op P;refine⟨F,cap,K,⟨?_,?_,?_,?_,?_,zo⟩,E,G,H,L B w' b m (fun x t=>?_) (fun _=>R)⟩;rw[a.u];exact d;rw[a.u];exact e;rw[a.u];exact f;rw[a.u];exact g;rw[a.u];exact D;have:=(n x t).1.lt;exact⟨(n x t).1.z c this,zo⟩;obtain⟨d,e,f,g⟩:=r.zero op s u;obtain⟨pb,q,l,s1,v,y,z⟩:=M op s u;have T:=y.lt;have W:=z.lt;have k:l.size=(yj op).length:=by have:=congrArg length v;simpa using this
 refine⟨pb,q,l.size,⟨?_,?_,?_,?_,?_,zo⟩,?_,⟨zo,zo⟩,?_⟩;rw[a.u];exact d;rw[a.u];exact e;rw[a.u];exact f;rw[a.u];exact g;rw[a.u];exact s1;rw[<-k];exact z.z c W;intro j p N;rw[(y.z c T).u];have:l.toList[j]? = O (I J p):=by rw[v,Zn,N];rfl
 simpa using this
theorem rA(w:YW):Calls prog 39 #[] w fun e w'=>∃tb,e=Rt (A (O ⟨tb,0,X⟩))/\bu w' tb/\Below w.heap.size w w':=by
 have D:=V (PU w);have n0:∀(a:Addr)(W:YW)(cap:YV),(store a (.func (.func 123) #[] cap)).run prog W=stored prog W a (.func (.func 123) #[] cap) .plain:=fun a W cap=>run_store _ _ _ _ _ rfl;go_enter func39,ntmps39;go_wp2_with fail;refine D.m ?_;rintro e u ⟨cs,rfl,hT,N,K⟩;have e0:=V hT;have o:=V K;have a0:=hT.size;clear hT K D;go_wp2_with (refine wpList_store_row rfl 112 (.tmp 1) (.tmp 3) rfl u.heap.size cs rfl rfl 112 _ (Blk.new u _ _) (by rw[a0];kernel_rfl) (by rw[a0];kernel_rfl) N ?_);go_loopw [2] (fun i wr=>∃(k:Nat)(v:YV),i=I J k/\40<=k/\k<=60/\Blk wr u.heap.size v 112/\bS wr v/\(∀op,40<=op->op<k->lM wr v op)/\Below w.heap.size w wr) (fun i _=>60-(intOf i).toNat);case atStart=>refine⟨40,cs,rfl,zo,zo,(Blk.new u _ _).setRow _,e0.keep ((js.aB (zB u _)).trans (js.row (Blk.new u _ _) _)),fun op h1 h2=>zo,?_⟩;exact cD (o.trans ((zB u _).m o.size)) o.size _
 case round=>
  obtain⟨k,v,rfl,L,m0,f,d,g,p⟩:=hrel;have g0:=f.lt;by_cases M:k<60
  ·have i0:(k:Int)<60:=zo;have h0:(k:Int)<=59:=zo;have l0:(0:Int)<=k:=zo;have H:=V (nF k ⟨L,M⟩ wr);have HB:=V p;have h:=V f;have b:=V d;have l:=V g;clear p f d g;go_wp2_with fail;refine H.m ?_;rintro e n ⟨B,rfl,Q,y⟩;have s:Below wr.heap.size wr n:=by rw[y];exact zB wr _
   have R:Blk n wr.heap.size B 3:=by rw[y];exact Blk.new wr _ _
   have F:=V (NI (O ⟨wr.heap.size,0,X⟩) B.size B.size n);have c0:=V Q;have r:=V s;have G:=V R;clear H y Q s R;go_wp2_with fail;refine F.m ?_;rintro e w3 ⟨rfl,z⟩;have m:Below n.heap.size n w3:=by rw[z];exact zB n _
   have P:Blk w3 n.heap.size #[S (O ⟨wr.heap.size,0,X⟩) B.size B.size] 115:=by rw[z];exact Blk.new n _ _
   have T:=G.z m G.lt;have x:Below wr.heap.size wr w3:=r.trans (m.m r.size);have c:=h.z x g0;have f0:=c.u (k*5+4);have k0:=c.H;have j0:=c.lt;obtain⟨old,t⟩:∃old,v[k*5+4]? = O old:=⟨_,Array.getElem?_eq_getElem (by have:=b.size;omega)⟩;rw[t]at f0;have b0:=V P;have d0:=V T;have j:=V c;have E:=V x;clear z m P T x c F t;go_wp2;go_roundw;case rel=>have hk:=js.u j (k*5+4) (.func (.func 123) #[] #[A (O ⟨n.heap.size,0,X⟩)]);have q:=(js.aB E).trans hk;refine⟨k+1,v.setIfInBounds (k*5+4) (.func (.func 123) #[] #[A (O ⟨n.heap.size,0,X⟩)]),by go_num,zo,zo,j.set _ _,(b.keep q).set k ⟨L,M⟩ _,?_,?_⟩;intro op h1 h2;by_cases e:op=k;subst e;refine⟨n.heap.size,wr.heap.size,B,?_,U c0,hk _ _ _ d0 zd,hk _ _ _ b0 zd⟩;rw[Array.getElem?_setIfInBounds_self_of_lt (by have:=b.size;omega)];exact((U l op h1 zo).keep q).other _ e;exact(HB.trans (E.m HB.size)).setCell o.size _
   case measure=>exact zv
  ·have q:k=60:=zo;subst q;have HB:=V p;have h:=V f;have b:=V d;have l:=V g;clear p f d g;go_wp2;go_ret;exact⟨u.heap.size,rfl,⟨v,U h,U b,U l⟩,U HB⟩
theorem eN(p:Nat)(ls la lc lo en:Int)(c:Nat)(i:c<=1000)(h:xG ls la lc lo):MOk (zZ p ls la lc lo en c):=by obtain⟨a,b,d,e⟩:=h;unfold cf at a b d e;have g:(⟨#[]⟩:YB).size=0:=rfl;refine⟨⟨a,b,d,e⟩,?_,?_,?_,?_,?_,?_,?_,?_⟩;simp[zZ];omega;simp[zZ];omega;simp[zZ];omega;simp[zZ];omega;simp[zZ,g];omega;simp[zZ];simp[zZ];intro x f;simp[zZ]at f;rw[f.2];exact qy
theorem FG (W:YW) (B tb p:Nat) (vl:Value) (ls la lc lo en:Int) (c:Nat) (hB:B≤W.heap.size) (hc:c≤1000) : PmE B ((W.alloc (C (madeCells #[I J 0] c) 2)).alloc (C #[A (O ⟨tb,0,X⟩),I J ls,I J la,I J lc,I J lo,vl,I J en,I J 0,Bl Z,S X 0 0,S X 0 0,S X 0 0,S (O ⟨W.heap.size,0,X⟩) c c,S X 0 0] 122)).drew (W.heap.size+1) tb vl (zZ p ls la lc lo en c) 0:=by
 have hs1:(W.alloc (C (madeCells #[I J 0] c) 2)).heap.size=W.heap.size+1:=zs;have hrow:((W.alloc (C (madeCells #[I J 0] c) 2)).alloc (C #[A (O ⟨tb,0,X⟩),I J ls,I J la,I J lc,I J lo,vl,I J en,I J 0,Bl Z,S X 0 0,S X 0 0,S X 0 0,S (O ⟨W.heap.size,0,X⟩) c c,S X 0 0] 122)).drew.ownsRow B 2 1 (S (O ⟨W.heap.size,0,X⟩) c c) c (zn (replicate c 0)):=by refine⟨by simp[zn],Zf ⟨W.heap.size,c,madeCells #[I J 0] c,rfl,hB,((Blk.new W _ _).alloc _).drew,Zc _,zm,by rw[size_madeCells];omega,?_⟩⟩;rw[Cm,take_of_length_le (by simp[zn])]
 have hb:=Blk.new (W.alloc (C (madeCells #[I J 0] c) 2)) #[A (O ⟨tb,0,X⟩),I J ls,I J la,I J lc,I J lo,vl,I J en,I J 0,Bl Z,S X 0 0,S X 0 0,S X 0 0,S (O ⟨W.heap.size,0,X⟩) c c,S X 0 0] 122;rw[hs1]at hb;refine⟨S X 0 0,S X 0 0,S X 0 0,S (O ⟨W.heap.size,0,X⟩) c c,S X 0 0,⟨hb.drew,zo,⟨?_,?_,?_,rfl⟩⟩⟩;intro i v t hv ht;have hi:i<5:=(Zb.1 hv).1;match i,hi with
 |0,_=>simp[xx,zZ,zn]at hv ht;subst hv ht;exact Zm _ _ _ _
 |1,_=>simp[xx,zZ,zn]at hv ht;subst hv ht;exact Zm _ _ _ _
 |2,_=>simp[xx,zZ,zn]at hv ht;subst hv ht;exact Zm _ _ _ _
 |3, _=>simp only[xx,zZ,getElem?_cons_succ,getElem?_cons_zero,Zs,Zr,length_replicate]at hv ht;subst hv ht;exact hrow
 |4, _=>
  simp only[getElem?_cons_succ,getElem?_cons_zero,Zs]at hv;subst hv;have e0:byteCells ⟨#[]⟩=[]:=by unfold byteCells;rw[Zv];rfl
  have e:t=⟨5,1,0,[]⟩:=by have:=Zl ht;rw[← this,← e0];rfl
  rw[e];exact Zm _ _ _ _
 intro i j v v' k hv hv' hk hk';have hi:i<5:=(Zb.1 hv).1;have hj:j<5:=(Zb.1 hv').1;match i,hi with
 |0,_=>simp at hv;subst hv;simp[Value.ownBlock]at hk
 |1,_=>simp at hv;subst hv;simp[Value.ownBlock]at hk
 |2,_=>simp at hv;subst hv;simp[Value.ownBlock]at hk
 |4,_=>simp at hv;subst hv;simp[Value.ownBlock]at hk
 |3, _=>
  match j,hj with
  |0,_=>simp at hv';subst hv';simp[Value.ownBlock]at hk'
  |1,_=>simp at hv';subst hv';simp[Value.ownBlock]at hk'
  |2,_=>simp at hv';subst hv';simp[Value.ownBlock]at hk'
  |4,_=>simp at hv';subst hv';simp[Value.ownBlock]at hk'
  |3,_=>rfl
 intro i v b hv hb e;simp at hb;subst hb;have hi:i<5:=(Zb.1 hv).1;match i,hi with
 |0,_=>simp at hv;subst hv;simp[Value.ownBlock]at e
 |1,_=>simp at hv;subst hv;simp[Value.ownBlock]at e
 |2,_=>simp at hv;subst hv;simp[Value.ownBlock]at e
 |3,_=>simp at hv;subst hv;simp[Value.ownBlock]at e
 |4,_=>simp at hv;subst hv;simp[Value.ownBlock]at e
theorem By(j p g len cap:Nat)(ls la lc lo en ce:Int)(w:YW)(s:0<=ce/\ce<=1000):Calls prog 62 #[A (O ⟨j,0,X⟩),Ag #[S (O ⟨g,0,X⟩) len cap,I J en,I J ce],Ag #[I J ls,I J la,I J lc,I J lo]] w fun e w'=>∃b,e=Rt (A (O ⟨b,0,X⟩))/\PmE w.heap.size w' b j (S (O ⟨g,0,X⟩) len cap) (zZ p ls la lc lo en ce) 0/\Below w.heap.size w w':=by obtain⟨c,rfl⟩:∃c:Nat,ce=c:=⟨ce.toNat,zo⟩;have v:=run_make_row' (P:=prog) 42 2 (I J 0) 8 underlying42 af rfl .i64 .i64 c zo zo;go_enter func62,ntmps62;go_wp2_with fail;have o:=Blk.new w #[S (O ⟨g,0,X⟩) len cap,I J en,I J c] 73;have f:=Blk.new (w.alloc (C #[S (O ⟨g,0,X⟩) len cap,I J en,I J c] 73)) #[I J ls,I J la,I J lc,I J lo] 39;rw[ke]at f;have d:=yG w (C #[S (O ⟨g,0,X⟩) len cap,I J en,I J c] 73) (C #[I J ls,I J la,I J lc,I J lo] 39);have h:((w.alloc (C #[S (O ⟨g,0,X⟩) len cap,I J en,I J c] 73)).alloc (C #[I J ls,I J la,I J lc,I J lo] 39)).heap.size=w.heap.size+2:=zs;have a:=o.alloc (C #[I J ls,I J la,I J lc,I J lo] 39);generalize (w.alloc (C #[S (O ⟨g,0,X⟩) len cap,I J en,I J c] 73)).alloc (C #[I J ls,I J la,I J lc,I J lo] 39)=W at *;have u:=a.u;have t:=f.u;have m:=(a.alloc (C (madeCells #[I J 0] c) 2)).u;have k:=(f.alloc (C (madeCells #[I J 0] c) 2)).u;have n:=((a.alloc (C (madeCells #[I J 0] c) 2)).drew).u;have l:=((f.alloc (C (madeCells #[I J 0] c) 2)).drew).u;have x:w.heap.size<W.heap.size:=zo;have q:w.heap.size+1<W.heap.size:=zo;have i:=V d;have r:=V h;clear o a f d h;go_region;all_goals go_wp2;go_ret;refine⟨_,rfl,FG W w.heap.size j p _ ls la lc lo en c i.size zo,?_⟩;exact((i.alloc i.size _).alloc (by have:=i.size;simp;omega) _).drew
theorem AI(s:YB):strOfNums (s.toList.map (fun c=>(c.toNat:Int)))=s:=by apply ByteArray.ext;apply Array.ext';rw[Zv];simp[strOfNums,Function.comp_def]
theorem Qa(w:YW)(B:Nat)(j:Value)(s:YB)(h:w.ownsRow B 5 1 j s.size (byteCells s)):(convert 86 9 j).run prog w=.ok (Sr s) w:=by
 by_cases k:0<s.size;obtain⟨g,cap,rfl,_,_⟩:=h.form k
 have b:=run_convert_bytes_arg (P:=prog) w 86 5 underlying86 underlying5 g 0 s.size cap (s.toList.map (fun c=>(c.toNat:Int))) (by rw[length_map];exact ku s) (fun i d=>by
   have m:=zD h i zo
   rw[Nat.zero_add,m]
   unfold byteCells
   have a:i<s.toList.length:=by rw[ku];exact d
   rw[Zn,Za a,Zj,Zn,Za a]
   rfl) 9 underlying9
 rw[AI]at b;exact b;have f:s.size=0:=zo;have e:s=ByteArray.empty:=ByteArray.ext (Array.eq_empty_of_size_eq_zero f);obtain⟨n,l⟩:=h;rcases l with⟨rfl,_⟩|⟨g,cap,cs,rfl,o,p,q,r,t,u⟩;rw[e];exact run_convert_bytes_nil (P:=prog) w 86 5 underlying86 underlying5 _ _ 9 underlying9;have b:=run_convert_bytes_arg (P:=prog) w 86 5 underlying86 underlying5 g 0 s.size cap [] (by simp[f]) (fun i d=>zo) 9 underlying9;rw[show strOfNums []=s by rw[e];rfl]at b;exact b
theorem RV{ls la lc lo:Int}:(xq ls&&xq la&&xq lc&&xq lo)=Y↔xG ls la lc lo:=by unfold xq xG cf;simp[and_assoc]
theorem QV{ls la lc lo:Int}(h:¬xG ls la lc lo):(xq ls&&xq la&&xq lc&&xq lo)=Z:=by cases e:(xq ls&&xq la&&xq lc&&xq lo);rfl;exact absurd (RV.1 e) h
def mD(w:YW)(vl:Value)(en ce ls la lc lo:Int):World:=(((w.alloc (C #[vl,I J en,I J ce] 73)).alloc (C #[I J ls,I J la,I J lc,I J lo] 39)).alloc (C #[I J 0,S X 0 0,S X 0 0,Sr ⟨#[]⟩,I J 0] 44)).alloc (C #[I J ls,I J la,I J lc,I J lo] 3)
structure Uv(w:YW)(vl:Value)(en ce ls la lc lo:Int)(W:YW):Prop where
 p:Blk W w.heap.size #[vl,I J en,I J ce] 73
 l:Blk W (w.heap.size+1) #[I J ls,I J la,I J lc,I J lo] 39
 r:Blk W (w.heap.size+1+1) #[I J 0,S X 0 0,S X 0 0,Sr ⟨#[]⟩,I J 0] 44
 a:Blk W (w.heap.size+1+1+1) #[I J ls,I J la,I J lc,I J lo] 3
 size:W.heap.size=w.heap.size+4
 z:Below w.heap.size w W
theorem Mi(w:YW)(a:Value)(en ce ls la lc lo:Int):Uv w a en ce ls la lc lo (mD w a en ce ls la lc lo):=by unfold mD;refine⟨?_,?_,?_,?_,zs,?_⟩;exact zk;exact zk;exact zk;exact zk;exact zb
theorem IN(i g len cap:Nat)(en ce ls la lc lo fuel:Int)(w:YW)(f:¬xG ls la lc lo):Calls prog 40 #[A (O ⟨i,0,X⟩),Ag #[S (O ⟨g,0,X⟩) len cap,I J en,I J ce],Ag #[I J ls,I J la,I J lc,I J lo],I J fuel] w fun e w'=>e=Rt (xX 6 (S X 0 0) (S X 0 0) ⟨#[]⟩ 0)/\Below w.heap.size w w':=by unfold xX;have c:=Mi w (S (O ⟨g,0,X⟩) len cap) en ce ls la lc lo;have d:=V (pk (w.heap.size+1+1+1) 4 ls la lc lo _ c.a.u);rw[QV f]at d;have b:=V c;unfold mD at d b;clear c;go_enter func40,ntmps40;go_wp2_with fail;refine d.m ?_;rintro e m ⟨rfl,h⟩;rw[<-h]at b;clear h d;have j:=b.r.u;have k:=b.r.H;have l:=b.r.lt;go_wp2;refine bodyPost_ret (results_cell_row (P:=prog) rfl _ _ (w.heap.size+1+1) 44 _ (0,0) _ rfl (dk b.r rfl) underlying44 rfl jO) rfl ?_;exact⟨rfl,((((b.z.setCell zp _).setCell zp _).setCell zp _).setCell zp _).setCell zp _⟩
theorem Jz{w:YW}{x:Nat}{er st:Int}{out:YB}(h:Blk w x #[I J er,S X 0 0,S X 0 0,Sr out,I J st] 44)(a b:Value):Blk ((w.setCell ⟨x,1,X⟩ a).setCell ⟨x,2,X⟩ b) x #[I J er,a,b,Sr out,I J st] 44:=by have c:=(h.set 1 a).set 2 b;simpa only [Zt,set_cons_succ,set_cons_zero]using c
theorem Jy{w:YW}{x:Nat}{er st:Int}{out:YB}(h:Blk w x #[I J er,S X 0 0,S X 0 0,Sr out,I J st] 44)(a b:Value):Blk ((w.setCell ⟨x,2,X⟩ b).setCell ⟨x,1,X⟩ a) x #[I J er,a,b,Sr out,I J st] 44:=by have c:=(h.set 2 b).set 1 a;simpa only [Zt,set_cons_succ,set_cons_zero]using c
def Mf(w:YW)(r:MS×Int×Int)(e:Ending)(w':YW):Prop:=∃vS vC,e=Rt (xX r.2.1 vS vC r.1.out r.2.2) /\
  (r.2.1=0->w'.ownsRow w.heap.size 2 1 vS r.1.C.length (zn r.1.C)/\w'.ownsRow w.heap.size 2 1 vC r.1.cells.length (zn r.1.cells)/\r.1.C.length<=1000/\r.1.cells.length<=1000/\∀j,vS.ownBlock=O j->vC.ownBlock≠O j) /\
  (r.2.1≠0->vS=S X 0 0/\vC=S X 0 0)/\Below w.heap.size w w'
theorem Gj(tb g cap p:Nat)(l:YL)(en ce ls la lc lo fuel:Int)(w:YW)(hT:bu w tb)(ht:Lib.TabBelow prog w.heap.size w "internal/strconv.uint64pow10" .u64 Lib.pow10Tab)(hg:aq w.heap.size w g l)(y0:yX l)(s0:0≤en∧en < l.length)(q0:0≤ce∧ce≤1000)(v:xG ls la lc lo)(I0:fuel≤1000000000):Calls prog 40 #[A (O ⟨tb,0,X⟩),Ag #[S (O ⟨g,0,X⟩) l.length cap,I J en,I J ce],Ag #[I J ls,I J la,I J lc,I J lo],I J fuel] w (Mf w (zO l fuel.toNat 0 (zZ p ls la lc lo en ce))):=by
 have i:=Mi w (S (O ⟨g,0,X⟩) l.length cap) en ce ls la lc lo;have z:=V (pk (w.heap.size+1+1+1) 4 ls la lc lo _ i.a.u);rw[RV.2 v]at z;have d:=V i;have s:=i.z;have k:w.heap.size<=(mD w (S (O ⟨g,0,X⟩) l.length cap) en ce ls la lc lo).heap.size:=s.size;have HT:Hid (sC (mD w (S (O ⟨g,0,X⟩) l.length cap) en ce ls la lc lo).heap.size (mD w (S (O ⟨g,0,X⟩) l.length cap) en ce ls la lc lo) tb):=hT.ok s k (fun w' h'=>ht w' (s.trans (h'.m k)));have T:=hg.to s;have HG:Hid (aq (mD w (S (O ⟨g,0,X⟩) l.length cap) en ce ls la lc lo).heap.size (mD w (S (O ⟨g,0,X⟩) l.length cap) en ce ls la lc lo) g l):=⟨Nat.lt_of_lt_of_le T.low k,T.u⟩;have B:=V (By tb p g l.length cap ls la lc lo en ce (mD w (S (O ⟨g,0,X⟩) l.length cap) en ce ls la lc lo) q0);have h:MOk (zZ p ls la lc lo en ce):=by obtain⟨c,rfl⟩:∃c:Nat,ce=c:=⟨ce.toNat,zo⟩;exact eN p ls la lc lo en c zo v
 have B0:gd l (zZ p ls la lc lo en ce):=⟨s0,by simp[zZ]⟩;have d0:=V h;have i0:=V B0;have f0:=V y0;generalize zZ p ls la lc lo en ce=m0 at *;clear i s k hT ht T h B0 y0 hg v q0 s0;unfold mD at z d HT HG B;go_enter func40,ntmps40;go_wp2_with fail;refine z.m ?_;rintro e W ⟨rfl,hw⟩;rw[<-hw]at d HT HG B;clear hw z;have G0:=d.p.u;have F0:=d.l.u;have K0:=d.p.lt;have L0:=d.l.lt;go_wp2_with fail;refine B.m ?_;rintro e w1 ⟨b,rfl,D,N⟩;have F:=V (Ob W.heap.size b tb g cap l m0 w1 W fuel I0 N HT D d0 f0 i0 HG);have a0:=V N;generalize zO l fuel.toNat 0 m0=res at *;obtain⟨rm,re,rs⟩:=res;clear D N B G0 F0 K0 L0 HT HG i0 d0 f0;go_wp2_with fail;refine F.m ?_;rintro e y ⟨rfl,D,h,o0⟩;have R:Below W.heap.size W y:=a0.trans o0;obtain⟨vS,vA,vC,vE,vO,o⟩:=D;obtain⟨aS,kS,O0⟩:=zu o.oS;obtain⟨aE,kE,M0⟩:=zu o.oE;obtain⟨aO,kO,N0⟩:=zu o.oO;subst O0 M0 N0;have C0:rm.C.length<=1000:=by have:=h.C;have:=h.lims;omega
 have D0:rm.cells.length<=1000:=h.cells;have x0:=o.oS;have w0:=o.oE;have n0:∀j,(Value.slice aS rm.C.length kS).ownBlock=O j->(Value.slice aE rm.cells.length kE).ownBlock≠O j:=by intro j h1 h2;have:=o.aD.apart 0 3 _ _ j rfl rfl h1 h2;omega
 have f:∀W',Below y.heap.size y W'->(convert 86 9 (S aO rm.out.size kO)).run prog W'=.ok (Sr rm.out) W':=fun W' hW=>Qa W' W.heap.size _ rm.out (o.z hW).oO;have G:=f y (Ze _ _);have H:=f y.drew (yP (Ze _ _));have K:=f (y.alloc (C #[I J 0,S X 0 0,S X 0 0,Sr ⟨#[]⟩,I J 0] 44)) (zB _ _);have L:=f (y.alloc (C #[I J 0,S X 0 0,S X 0 0,Sr ⟨#[]⟩,I J 0] 44)).drew (yP (zB _ _));have hc:=o.D.u;unfold yC at hc;have V0:=o.D.lt;have S0:W.heap.size<=b:=o.K;have A0:=d.r.z R d.r.lt;have b1:=d.size;have HP:=V o;have HR:=V A0;have c0:=V R;have g0:=V x0;have e0:=V w0;have E0:=V n0;clear f o A0 R x0 w0 n0 o0 h F a0;generalize M:rm.out=out at *;have E:=V M;clear M;go_wp2;go_cut [11]from 12 to 54 (fun R0 wc=>∃x,R0=A (O ⟨x,0,X⟩)/\Blk wc x #[I J re,S X 0 0,S X 0 0,Sr out,I J rs] 44/\y.heap.size<=x/\Below y.heap.size y wc)
 case first=>go_region;all_goals go_wp2;go_meet;refine⟨y.heap.size,rfl,?_,Zc _,?_⟩;exact zk;exact zb
 case rest=>
  obtain⟨x,rfl,hx,e1,q⟩:=hcut;obtain⟨w3,rfl⟩:∃w3:YW,w3=wc:=⟨_,rfl⟩;have u:=HR.z q HR.lt;have H0:=hx.u;have J0:=hx.H;have f1:=hx.lt;have r0:=u.u;have t0:=u.H;have a1:=HR.lt;have P0:x≠w.heap.size+1+1:=zo;have Q:Below w.heap.size w w3:=d.z.trans ((c0.trans (q.m c0.size)).m d.z.size);have HX:=V hx;have h0:=V u;have b0:=V Q;by_cases he:re=0
  ·subst he;have t:=HP.z q;have p0:=t.D.u;unfold yC at p0;have T0:=t.D.lt;have c1:x≠b:=zo;have v0:(Value.slice aS rm.C.length kS).ownBlock≠O x:=fun e=>by have:=(zC g0 e).1;omega
   have u0:(Value.slice aE rm.cells.length kE).ownBlock≠O x:=fun e=>by have:=(zC e0 e).1;omega
   have n:(Value.slice aS rm.C.length kS).ownBlock≠O (w.heap.size+1+1):=fun e=>by have:=(zC g0 e).2;omega
   have m:(Value.slice aE rm.cells.length kE).ownBlock≠O (w.heap.size+1+1):=fun e=>by have:=(zC e0 e).2;omega
   have j0:=V (And.intro t.oS t.oE);clear hc hx u Q q t G H K L r0 t0;go_wp2;go_cut []from 12 to 54 (fun wd=>Blk wd x #[I J 0,S aS rm.C.length kS,S aE rm.cells.length kE,Sr out,I J rs] 44/\Blk wd (w.heap.size+1+1) #[I J 0,S X 0 0,S X 0 0,Sr ⟨#[]⟩,I J 0] 44/\wd.ownsRow W.heap.size 2 1 (S aS rm.C.length kS) rm.C.length (zn rm.C)/\wd.ownsRow W.heap.size 2 1 (S aE rm.cells.length kE) rm.cells.length (zn rm.cells)/\Below w.heap.size w wd)
   case first=>
    have Q0:w.heap.size<=x:=zo;have l0:=V Q0;have HN:=V (And.intro v0 u0);have k0:=V P0;clear v0 u0 n m;go_region;all_goals
     go_wp2;go_meet;refine⟨?_,?_,?_,?_,?_⟩;first|exact(Jz HX _ _).drew|exact(Jy HX _ _).drew|exact Jz HX.drew _ _|exact Jy HX.drew _ _
     exact(h0.drew.far k0.symm _).far k0.symm _;exact zA (zA (w:=w3.drew) j0.1 HN.1 _) HN.1 _;exact zA (zA (w:=w3.drew) j0.2 HN.2 _) HN.2 _;exact((yP b0).setCell (U l0) _).setCell (U l0) _
   case rest=>obtain⟨d1,d2,d3,d4,d5⟩:=hcut;have W0:=d1.u;have Y0:=d1.H;have Z0:=d1.lt;have r0:=d2.u;have t0:=d2.H;have U0:=d2.lt;have D1:=V d1;have D2:=V d2;have D3:=V d3;have D4:=V d4;have D5:=V d5;clear d1 d2 d3 d4 d5 H0 J0 p0;go_wp2;refine bodyPost_ret (results_cell_row (P:=prog) rfl _ _ (w.heap.size+1+1) 44 _ (0,0) _ rfl (dk D2 rfl) underlying44 rfl jO) rfl ?_;refine⟨S aS rm.C.length kS,S aE rm.cells.length kE,(by show _=Ending.returned (xX _ _ _ rm.out _);rw[U E];rfl),fun _=>⟨?_,?_,C0,D0,U E0⟩,fun e=>absurd rfl e,?_⟩;exact zV (zA (zA (zA (zA (zA D3 n _) n _) n _) n _) n _) zo;exact zV (zA (zA (zA (zA (zA D4 m _) m _) m _) m _) m _) zo;exact((((D5.setCell zp _).setCell zp _).setCell zp _).setCell zp _).setCell zp _
  ·have X0:(re==0)=Z:=by simpa using he
   clear hc hx u Q q G H K L;go_wp2;refine bodyPost_ret (results_cell_row (P:=prog) rfl _ _ (w.heap.size+1+1) 44 _ (0,0) _ rfl (dk h0 rfl) underlying44 rfl jO) rfl ?_;exact⟨S X 0 0,S X 0 0,(by show _=Ending.returned (xX _ _ _ rm.out _);rw[U E];rfl),fun e=>absurd e he,fun _=>⟨rfl,rfl⟩,((((b0.setCell zp _).setCell zp _).setCell zp _).setCell zp _).setCell zp _⟩
def wh(w:YW)(c:Nat)(l:YL)(en ce:Int):Prop:=∃g cap,Blk w c #[S (O ⟨g,0,X⟩) l.length cap,I J en,I J ce] 78/\w.ownsRow 0 65 2 (S (O ⟨g,0,X⟩) l.length cap) l.length (zc l)
theorem wh.law{w w':YW}{c:Nat}{l:YL}{en ce:Int}(h:wh w c l en ce)(a:zz w w'):wh w' c l en ce:=by obtain⟨g,cap,b,d⟩:=h;exact⟨g,cap,a.D b,a.row d⟩
theorem nO(g cap:Nat)(l:YL)(w:YW)(c:w.ownsRow 0 65 2 (S (O ⟨g,0,X⟩) l.length cap) l.length (zc l))(d:0<l.length)(D:l.length<=50000):Calls prog 37 #[S (O ⟨g,0,X⟩) l.length cap] w fun e w'=>∃v,e=Rt v/\w'.ownsRow w.heap.size 65 2 v l.length (zc l)/\Below w.heap.size w w':=by obtain⟨z,n,f,h,i⟩:=info_parts yJ;have x:=(zC c (k:=g) rfl).1;have p:(w.alloc (C #[] 65)).ownsRow w.heap.size 65 2 (S (O ⟨w.heap.size,0,X⟩) 0 0) 0 []:=⟨rfl,Zf ⟨w.heap.size,0,#[],rfl,Zc _,Blk.new w _ _,Zc _,zm,rfl,rfl⟩⟩;have r:=V p;have u:=V (ov (zE c (C #[] 65)));have t:Hid ((zc l).length=l.length*2):=c.1;have E:∀W:YW,(binOp .eql 33 (S (O ⟨g,0,X⟩) l.length cap) (S X 0 0)).run prog W=.ok (Bl Z) W:=fun W=>Lib.run_eql_slice_nil W _ _ _ _ _ _ _ underlying33;clear p c;go_enter func37,ntmps37;go_wp2_with (at_builtin;refine wpList_append_lies _ rfl (.tmp 5) (.tmp 6) 33 rfl w.heap.size 65 z _ 2 16 underlying33 n f h i rfl zd (S (O ⟨w.heap.size,0,X⟩) 0 0) 0 [] zf r ⟨g,0,X⟩ l.length cap (zc l) zf t u (kP l) d zm zo zs _ rfl ?_;intro B o F b a m q;have j:=V b;have s:=V a;clear b a m);go_ret;have c:=U j;rw[Nat.zero_add,nil_append]at c;refine⟨_,rfl,c,((Ze _ _).alloc (Zc _) _).grown s zs (fun k y=>by simp[Value.ownBlock]at y;omega)⟩
theorem RK:(f37.name == "runtime.NumGoroutine")=Z:=zr
theorem RD:f37.body.isNone=Z:=zr
theorem Ci(c g n cap:Nat)(x y:Value)(w:YW)(h:Blk w c #[S (O ⟨g,0,X⟩) n cap,x,y] 78)(f:0<n):Calls prog 36 #[A (O ⟨c,0,X⟩)] w fun e w'=>e=Rt (Bl Z)/\w'=w:=by
 have b:=h.u;have d:=h.lt;have a:((n:Int)==0)=Z:=by have:¬(n:Int)=0:=zo;simpa using this
 clear h;go_enter func36,ntmps36;go_wp2;go_ret;exact⟨rfl,rfl⟩
theorem Nw(w:YW)(c:Nat)(l:YL)(en ce:Int)(h:wh w c l en ce)(a:0<l.length)(u:l.length<=50000):Calls prog 19 #[A (O ⟨c,0,X⟩)] w fun e w'=>∃v,e=Rt (Tu #[v,I J en])/\w'.ownsRow w.heap.size 65 2 v l.length (zc l)/\Below w.heap.size w w':=by obtain⟨g,cap,f,p⟩:=h;have s:Hid (∀n,Calls prog 37 #[S (O ⟨g,0,X⟩) l.length cap] (w.drewN n) fun e w'=>∃v,e=Rt v/\w'.ownsRow w.heap.size 65 2 v l.length (zc l)/\Below w.heap.size (w.drewN n) w'):=fun n=>nO g cap l (w.drewN n) p a u;have d:=V (Ci c g l.length cap _ _ w f a);have x:=f.u;have r:=V f;have o:=f.lt;clear f p;go_enter func19,ntmps19;go_wp2_with fail;refine d.m ?_;rintro e y ⟨rfl,q⟩;obtain rfl:=q.symm;clear q d;go_wp2;go_region_law (refine zN rfl 37 #[.tmp 10] #[33] rfl func37 RK RD #[S (O ⟨g,0,X⟩) l.length cap] ze (U s 1) ?_;rintro e z ⟨v,rfl,j,b⟩;have i:=(r.drewN 1).z b o;have t:=i.u;have m:=V j;have k:=V (vq b);clear j b i;refine⟨_,rfl,?_⟩);all_goals go_wp2_with fail;go_ret2;exact⟨v,rfl,U m,U k⟩
theorem RL:(f39.name == "runtime.NumGoroutine")=Z:=zr
theorem RE:f39.body.isNone=Z:=zr
theorem uz:(f40.name == "runtime.NumGoroutine")=Z:=zr
theorem uy:f40.body.isNone=Z:=zr
def mV(w:YW)(l:YL)(p:Nat)(en ce ls la lc lo fuel:Int)(e:Ending)(w':YW):Prop:=(¬xG ls la lc lo->e=Rt (xX 6 (S X 0 0) (S X 0 0) ⟨#[]⟩ 0)/\Below w.heap.size w w') /\
 (xG ls la lc lo->Mf w (zO l fuel.toNat 0 (zZ p ls la lc lo en ce)) e w')
theorem rR(a g cap p:Nat)(l:YL)(en ce ls la lc lo fuel:Int)(w:YW)(j:bu w a)(n:Lib.TabIs prog w "internal/strconv.uint64pow10" .u64 Lib.pow10Tab)(k:aq w.heap.size w g l)(i:yX l)(d:0≤en∧en < l.length)(c:0≤ce∧ce≤1000)(f:fuel≤1000000000):Calls prog 40 #[A (O ⟨a,0,X⟩),Ag #[S (O ⟨g,0,X⟩) l.length cap,I J en,I J ce],Ag #[I J ls,I J la,I J lc,I J lo],I J fuel] w (mV w l p en ce ls la lc lo fuel):=by by_cases h:xG ls la lc lo;exact(Gj a g cap p l en ce ls la lc lo fuel w j (Lib.tabBelow_of_tabIs n) k i d c h f).m (fun e w' b=>⟨fun m=>absurd h m,fun _=>b⟩);exact(IN a g l.length cap en ce ls la lc lo fuel w h).m (fun e w' b=>⟨fun _=>b,fun o=>absurd o h⟩)
end Go.Proofs.YtmeiikjpaepogaaGreatDoor
