/- Own. -/
import Derived.MakeChecks
import Derived.Deep.Strs
import Derived.LaidMore
import Derived.Stop.Joined
import Derived.Lib.LaidTab
import Derived.Test.YtmeiikjpaepogaaGreatDoorD28
import Derived.Deep.AppendLies
open Option renaming some->O,none->X
open Bool renaming true->Y,false->Z
open Go.Value renaming int->I,slice->S,pointer->A,bool->Bl,agg->Ag
open Go.Obj renaming cells->C
open Go.Ending renaming returned->Rt
open Go.IntKind renaming i64->J
set_option maxRecDepth 100000
set_option maxHeartbeats 16000000
namespace Go.Proofs.YtmeiikjpaepogaaGreatDoor
open Go Go.RowKit Go.ChangeShapes Go.WideShapes Go.ChangeAt Go.Deep Go.Proofs.Tryz List
section
variable {H:Type} {enc:TypeId×Value->H} {P:Program} {w:YW} {base:Nat} {spare:Nat->Bool}
theorem AO{t:TypeId}{b:Array (String×TypeId)}{fuel:Nat}{cs:List Value}{c:String}{d:DataW H}{p:List MemPlace}(a:P.underlying t=O (.interface b))(h:DataW.trod enc P w base spare Z fuel t cs=O (.iface c d,p)):∃u v,cs=[.iface u v]:=by
 cases fuel with
 |zero=>simp[DataW.trod]at h
 |succ n=>unfold DataW.trod at h;rw[a]at h;split at h<;>simp_all
end
def gW(x:ByteArray×Int×Int):DataW Unit:=.agg [.lit (.string x.1.data.toList),.lit (.int .i64 x.2.1),.lit (.int .i64 x.2.2)]
theorem PF:Rows.laid_fathom_compiler_vocabulary (H:=Unit)=.agg (jv.map gW):=zr
theorem AP:prog.cellsOf 146=3:=zr
theorem LS:prog.cellsOf 144=1:=zr
theorem LU:prog.cellsOf 194=117:=zr
theorem UJ{cs:List Value}(h:cs.length=3):∃a b c,cs=[a,b,c]:=by
 match cs,h with
 |[a,b,c],_=>exact⟨a,b,c,rfl⟩
theorem Tr{w:YW}{base:Nat}{spare:Nat->Bool}{held:Bool}{fuel:Nat}{cs:List Value}{x:ByteArray×Int×Int}{p:List MemPlace}(h:DataW.trod (fun _=>()) prog w base spare held fuel 146 cs=O (gW x,p)):cs=[.string x.1,I J x.2.1,I J x.2.2]:=by obtain⟨z,B,D,n,d,o,e,f,g⟩:=trod_struct3 underlying146 h;rw[AP]at o;obtain⟨a,b,c,rfl⟩:=UJ o;simp only[Gs,drop_zero,take_succ_cons,take_zero]at e;simp only[LS,drop_succ_cons,drop_zero,take_succ_cons,take_zero]at f;simp only[cY,drop_succ_cons,drop_zero,take_succ_cons,take_zero]at g;obtain⟨s,k,q,_⟩:=DataW.trod_string underlying9 e;obtain⟨i,l,r,_⟩:=DataW.trod_int underlying144 f;obtain⟨j,m,t,_⟩:=DataW.trod_int underlying3 g;subst q r t;unfold gW at d;simp only[Prod.mk.injEq,DataW.agg.injEq,List.cons.injEq,DataW.lit.injEq,Lit.string.injEq,Lit.int.injEq,and_true,true_and]at d;simp only[List.cons.injEq,and_true]at k l m;obtain⟨⟨u,v,y⟩,_⟩:=d;subst k l m;rw[v,y,lN u]
theorem PE{w:YW}{base:Nat}{spare:Nat->Bool}{held:Bool}{fuel:Nat}{cs:List Value}{p:List MemPlace}(h:DataW.trod (fun _=>()) prog w base spare held fuel 194 cs=O (.agg (jv.map gW),p)):cs=yz jv:=by
 obtain⟨xs,m,_,k,u,x,d⟩:=DataW.trod_array underlying194 h;rw[LU]at u;simp only[Prod.mk.injEq,DataW.agg.injEq]at k;have b:∀i,i<39->(cs.drop (i*3)).take 3=((yz jv).drop (i*3)).take 3:=by
  intro i g;have c:=d i g;rw[AP,Za zo]at c;obtain⟨y,n⟩:∃y,jv[i]? = O y:=⟨_,Za (by rw[aV];exact g)⟩;have a:(xs[i]'zo).1=gW y:=by
   have f:(xs.map (·.1))[i]? = O (xs[i]'zo).1:=by rw[Zn,Za zo];rfl
   have s:(jv.map gW)[i]? = O (gW y):=by rw[Zn,n];rfl
   rw[<-k.1,s]at f;exact(Zl f).symm
  have t:DataW.trod (fun _=>()) prog w base spare held m 146 ((cs.drop (i*3)).take 3)=O (gW y,(xs[i]'zo).2):=by rw[c,<-a]
  rw[Tr t];obtain⟨o,q,r⟩:=jr jv i y n;apply ext_getElem?;intro j;match j with
  |0=>rw[getElem?_take,getElem?_drop];simpa using o.symm
  |1=>rw[getElem?_take,getElem?_drop];simpa using q.symm
  |2=>rw[getElem?_take,getElem?_drop];simpa using r.symm
  |j+3=>rw[getElem?_take,if_neg zo];rfl
 apply ext_getElem?;intro j;by_cases v:j<117;have c:=b (j / 3) zo;have a:=congrArg (fun l=>l[j%3]?) c;simp only[getElem?_take,getElem?_drop]at a;rw[if_pos (Nat.mod_lt _ zd),if_pos (Nat.mod_lt _ zd)]at a;have e:j / 3*3+j%3=j:=zo;rw[e]at a;exact a;rw[getElem?_eq_none zo,getElem?_eq_none (by rw[dW,aV];omega)]
theorem Dd{P:Program}{w:YW}{n:String}{g:Nat}{cs:YV}(b:P.globalNamed n=O g)(h:w.var? P n=O cs):∃T a,w.heap[g]? = O (.cells cs T a):=by unfold World.var? at h;rw[b]at h;simp only[Option.bind_some]at h;split at h;rename_i c T a d;obtain rfl:=Zl h;exact⟨_,_,d⟩;cases h
theorem Ug:(Rows.compilesRow.laid[5]?).bind (fun x=>prog.globalNamed x.1)=O 0:=zr
theorem Uf:(Rows.compilesRow.laid[4]?).bind (fun x=>prog.globalNamed x.1)=O 1:=zr
theorem Ue:(Rows.compilesRow.laid[3]?).bind (fun x=>prog.globalNamed x.1)=O 2:=zr
theorem Uc:(Rows.compilesRow.laid[1]?).bind (fun x=>prog.globalNamed x.1)=O 5:=zr
theorem Uk:(prog.globals[0]?).map (·.type)=O 194:=zr
theorem Uj:(prog.globals[1]?).map (·.type)=O 197:=zr
theorem Ui:(prog.globals[2]?).map (·.type)=O 197:=zr
theorem ti{W:YW}(h:laidMetH prog Rows.compilesRow.laid W):jt W/\qR W:=by
 rw[MakeChecks.laidMetH_plain _ _ _ zr]at h;obtain⟨N,⟨_,_,_,_,_,_,_,_,_,_,⟨G,_,c1,_,_,_,b,_,p,_,⟨_,_,_,_,_,_,_,_,_,_,⟨H,T,c3,D,p3,P,c,m,q,j,⟨K,t4,c4,E,p4,Q,d,n,r,k,⟨L,t5,w,F,M,R,e,o,s,l,_,_⟩,_⟩,_⟩,_⟩,_⟩,_⟩,_,_⟩:=h;obtain rfl:=Zl (b.symm.trans Uc);have t:6<=W.heap.size:=by obtain⟨_,_,B⟩:=Dd b p;exact lt_of_block B
 obtain rfl:=Zl (c.symm.trans Ue);obtain rfl:=Zl (d.symm.trans Uf);obtain rfl:=Zl (e.symm.trans Ug);obtain rfl:=Zl (m.symm.trans Ui);obtain rfl:=Zl (n.symm.trans Uj);obtain rfl:=Zl (o.symm.trans Uk);have a:=l;rw[PF]at a;have z:=PE a;have i:w=mS:=by unfold mS;rw[<-z]
 subst i;obtain⟨u3,u,x⟩:=AO underlying197 j;obtain⟨u4,v,y⟩:=AO underlying197 k;have f:c3=#[.iface u3 u]:=by rw[<-x]
 have g:c4=#[.iface u4 v]:=by rw[<-y]
 subst f g;refine⟨⟨Dd e s,t⟩,⟨u4,v,?_⟩,⟨u3,u,?_⟩,t⟩;simpa using World.var?_cell d r 0;simpa using World.var?_cell c q 0
theorem Oc:Rows.laid_internal_strconv_uint64pow10 (H:=Unit)=Lib.tabData .u64 Lib.pow10Tab:=zr
theorem Ud:(Rows.compilesRow.laid[2]?).bind (fun x=>prog.globalNamed x.1)=O 3:=zr
theorem Uh:(prog.globals[3]?).map (·.type)=O 293:=zr
theorem Pn:prog.cellsOf 85=1:=zr
theorem LV:prog.cellsOf 293=20:=zr
theorem IM{W:YW}(h:laidMetH prog Rows.compilesRow.laid W):Lib.TabIs prog W "internal/strconv.uint64pow10" .u64 Lib.pow10Tab:=by rw[MakeChecks.laidMetH_plain _ _ _ zr]at h;obtain⟨j,⟨_,_,_,_,_,_,_,_,_,_,⟨_,_,_,_,_,_,_,_,_,_,⟨i,l,c2,g,p2,k,c,d,f,b,_,_⟩,_⟩,_⟩,_⟩:=h;obtain rfl:=Zl (c.symm.trans Ud);obtain rfl:=Zl (d.symm.trans Uh);have a:=b;rw[Oc]at a;have e:=Lib.cells_of_tab underlying293 underlying85 Pn LV a;unfold Lib.TabIs;rw[←e];exact f
theorem pR{W:YW}(h:laidMetH prog Rows.compilesRow.laid W):jk W:=⟨(ti h).1,(ti h).2,IM h⟩
end Go.Proofs.YtmeiikjpaepogaaGreatDoor
namespace Go.Proofs.YtmeiikjpaepogaaGreatDoor
open Go Go.RowKit Go.Proofs.Tryz List
theorem JJ:bH wV:=by intro w c p l en ce s t u v fuel g h q n m B;refine(FY w c p l en ce s t u v fuel h g.2.2 q n m zo).m ?_;rintro e w' ⟨er,H,G,out,st,rfl,a⟩;have d:∀b:Nat,xe w' b (S X 0 0) (S X 0 0) [] []:=fun b=>⟨Zm _ _ _ _,Zm _ _ _ _,zs⟩;by_cases f:xG s t u v;obtain⟨k,x,y⟩:=a.yes f;by_cases he:er=0;obtain⟨D,E,F,o4,o5⟩:=a.ok f he;refine⟨er,H,G,out,st,_,_,rfl,⟨D,E,zo⟩,⟨F,o4,o5⟩,a.z,fun i=>absurd f i,fun _ _=>by rw[k,x,y],fun _ i=>absurd (k.symm.trans he) i⟩;obtain⟨rfl,rfl⟩:=a.bad he;exact⟨er,_,_,out,st,[],[],rfl,d _,⟨zs,zs,fun j o=>by simp[Value.ownBlock]at o⟩,a.z,fun i=>absurd f i,fun _ z=>absurd (k.trans z) he,fun _ _=>by rw[k,x,y]⟩;obtain⟨rfl,rfl,rfl,rfl,rfl⟩:=a.no f;exact⟨_,_,_,_,_,[],[],rfl,d _,⟨zs,zs,fun j o=>by simp[Value.ownBlock]at o⟩,a.z,fun _=>rfl,fun r=>absurd r f,fun r=>absurd r f⟩
def kf(p q:PrS):Prop:=∀(k:Nat)(o:Obs)(m:MS),MOk m->m.aC=[]->m.aE=Z->qc p.1 {m with pc:=p.2} k o->∃k',k'<=k/\qc q.1 {m with pc:=q.2} k' o
theorem kf.refl(p:PrS):kf p p:=fun k _ _ _ _ _ h=>⟨k,Zc _,h⟩
theorem kf.trans{p q r:PrS}(f:kf p q)(g:kf q r):kf p r:=by intro k o m c a b h;obtain⟨i,l,d⟩:=f k o m c a b h;obtain⟨j,n,e⟩:=g i o m c a b d;exact⟨j,zo,e⟩
theorem im{p:PrS}(j:yl p){f:Blo->Blo}(s:∀b,(f b).1=b.1){G:Nat->Prop}(d:G p.2)(n:∀b∈zt p.1 p.2,xJ (f b).2/\∀y∈(f b).2,zT y.1=Y->iV p.1 y.2)(w:∀b∈zt p.1 p.2,G b.1->(∀x∈b.2,zT x.1=Y->G x.2.toNat)/\(∀x,b.2.getLast? = O x->yE x.1=Y->G (b.1+b.2.length)))(g:∀b∈zt p.1 p.2,G b.1->jj ((b.1+b.2.length:Nat):Int) b.2 (f b).2):kf p (yw p.1.length p.2 ((zt p.1 p.2).map f)):=by
 intro k o m E r B h;have ok:=xF j;have he:=j.entry;obtain⟨b,z,a⟩:=ok.has p.2 he (bx p.1 p.2 he);obtain⟨i,t⟩:=getElem?_of_mem z;obtain⟨F,D,q⟩:=Qv j s n w g k {m with pc:=p.2} o h (E.pc _) (Zf ⟨B,⟨i,b,t,by rw[a],by rw[a];exact d⟩,by simp only;rw[r];intro c h;cases h⟩);refine⟨F,D,?_⟩;have e:qk (qC p f) {m with pc:=p.2}={m with pc:=(((yw p.1.length p.2 ((zt p.1 p.2).map f)).2:Nat):Int)}:=by
  have l:=dj j s t;rw[a]at l;have u:qC p f (p.2:Int)=(yO ((zt p.1 p.2).map f) p.1.length ((zt p.1 p.2).map f).length).1.getD p.2 0:=by unfold qC;rw[if_pos zo,Zr]
  have v:(((yw p.1.length p.2 ((zt p.1 p.2).map f)).2:Nat):Int)=qC p f (p.2:Int):=by show(((yO ((zt p.1 p.2).map f) p.1.length ((zt p.1 p.2).map f).length).1.getD p.2 0).toNat:Int)=_;rw[u]at l ⊢;rw[l];simp
  unfold qk;simp only;rw[v,r];rfl
 rw[e]at q;exact q
theorem FW(r:YL):∀m:MS,(∀x∈r,yM x.1)->(zG r m).1.pc=m.pc/\(zG r m).1.aE=m.aE/\(zG r m).1.aC=m.aC:=by
 induction r with
 |nil=>intro m _;exact⟨rfl,rfl,rfl⟩
 |cons x r i=>intro m a;obtain⟨_,b,c,d⟩:=gP x.2 0 (ya x.1) (dq _ (a x zs)) m;rw[zG];split;obtain⟨e,f,g⟩:=i (qd x m).1 (fun y h=>a y (by simp[h]));exact⟨e.trans b,f.trans c,g.trans d⟩;exact⟨b,c,d⟩
theorem ix{r:YL}{x:Int×Int}(h:xJ (r++[x])):∀y∈r,yM y.1:=by intro y c;obtain⟨i,a⟩:=getElem?_of_mem c;have b:=(Zb.1 a).1;exact h i y (by rw[Zu b];exact a) zp
theorem rG{r:YL}(h:∀y∈r,yM y.1):xJ r:=fun _ x a _=>h x (Zd a)
theorem ir{r:YL}{x:Int×Int}(h:r.getLast? = O x):r=r.dropLast++[x]:=by rcases Zz r with rfl|⟨t,c,rfl⟩;simp at h;rw[concat_eq_append]at h ⊢;simp at h;subst h;simp
theorem Fc{nxt:Int}{r:YL}(c:∀y∈r,yM y.1):jj nxt (r++[(1,nxt)]) r:=by
 intro m _ _ a;rw[wX];by_cases h:(zG r m).2.1=0;rw[if_pos h];have e:zG [(1,nxt)] (zG r m).1=({(zG r m).1 with pc:=nxt},0,1):=by
  have b:qd (1,nxt) (zG r m).1=({(zG r m).1 with pc:=nxt},0):=by show zW nxt (ya 1) _=_;rw[rE 1 (Zg rfl)];unfold zW;rw[FN,if_pos rfl];rfl
  rw[zG,b];rfl
 rw[e];simp only;refine⟨h,zo,trivial,fun _=>?_⟩;have:=(FW r m c).1;rw[a]at this;rw[<-this];rw[if_neg h];exact⟨rfl,Zc _,rfl,fun _=>rfl⟩
theorem TY{p:PrS}(i:yl p):kf p (nE p):=by
 have ok:=xF i;have g:∀b∈zt p.1 p.2,∀y∈b.2,y∈p.1:=fun b c y d=>by rw[<-ok.flat];exact mem_flatMap.2 ⟨b,c,d⟩
 refine im i (f:=xB) (fun b=>by unfold xB;split<;>rfl) (G:=fun _=>True) trivial (fun b c=>?_) (fun _ _ _=>⟨fun _ _ _=>trivial,fun _ _ _=>trivial⟩) (fun b c _=>?_);have a:=qq i c;unfold xB;split;rename_i h;have e:=ir h;rw[e]at a;exact⟨rG (ix a),fun y d j=>⟨y,g b c y ((dropLast_sublist _).subset d),j,rfl⟩⟩;exact⟨a,fun y d j=>⟨y,g b c y d,j,rfl⟩⟩;have a:=qq i c;unfold xB;split;rename_i h;have e:=ir h;rw[e]at a;have:=Fc (nxt:=((b.1+b.2.length:Nat):Int)) (ix a);rw[<-e]at this;exact this;exact jj.refl _ _
theorem Vg{P:Prop}(zz0:P:=by
 obtain⟨i,e⟩:=getElem?_of_mem hb;refine⟨fun x d l=>?_,fun x d g=>?_⟩;obtain⟨j,k⟩:=getElem?_of_mem d;have a:=(Zb.1 k).1;have f:=vx hp ok e hg j a;have c:=jY ok.flat ok.firsts e a;rw[k]at c;rcases inv.N _ x c f l with h|h;exact h;simp at h;rw[getLast?_eq_getElem?]at d;have a:=(Zb.1 d).1;have f:=vx hp ok e hg _ a;have c:=jY ok.flat ok.firsts e a;rw[d]at c;rcases inv.goes _ x c f g with h|h;rw[show b.1+(b.2.length-1)+1=b.1+b.2.length from zo]at h;exact h;simp at h):P:=zz0
theorem TX{p:PrS}(g:yl p):kf p (gT p):=by
 have ok:=xF g;have e:=dF g;have s:∀b∈zt p.1 p.2,∀y∈b.2,y∈p.1:=fun b c y l=>by rw[<-ok.flat];exact mem_flatMap.2 ⟨b,c,l⟩
 refine im g (f:=ym (jm p.1 p.2)) (fun b=>by unfold ym;split<;>rfl) (G:=fun t=>(jm p.1 p.2).getD t Z=Y) ?_ (fun b c=>?_) (fun b c m=>?_) (fun b c m=>?_);rcases e.entry with h|h;exact h;simp at h;unfold ym;split;exact⟨qq g c,fun y l r=>⟨y,s b c y l,r,rfl⟩⟩;exact⟨fun i x d=>by simp at d,fun y l=>by simp at l⟩;obtain⟨i,n⟩:=getElem?_of_mem c;refine⟨fun x d r=>?_,fun x d q=>?_⟩;obtain⟨j,u⟩:=getElem?_of_mem d;have a:=(Zb.1 u).1;have o:=vx g ok n m j a;have k:=jY ok.flat ok.firsts n a;rw[u]at k;rcases e.N _ x k o r with h|h;exact h;simp at h;rw[getLast?_eq_getElem?]at d;have a:=(Zb.1 d).1;have o:=vx g ok n m _ a;have k:=jY ok.flat ok.firsts n a;rw[d]at k;rcases e.goes _ x k o q with h|h;rw[show b.1+(b.2.length-1)+1=b.1+b.2.length from zo]at h;exact h;simp at h;unfold ym;rw[if_pos m];exact jj.refl _ _
theorem Sh(m:MS)(op a b:Int)(h:yM op)(c:op≠0):doS m op a=doS m op b:=by obtain⟨d,e,f,g,i,j⟩:=h;unfold doS;simp only[if_neg c,if_neg d,if_neg e,if_neg f,if_neg g,if_neg i,if_neg j]
theorem At(op:Int)(h:0<=op/\op<=32):ya op=[op]:=by have:∀k:Fin 33,ya ((k.val:Nat):Int)=[((k.val:Nat):Int)]:=zd;have a:=this ⟨op.toNat,zo⟩;simp only at a;rwa [show((op.toNat:Nat):Int)=op from zo]at a
theorem qP(x:Int×Int)(m:MS)(h:0<=x.1/\x.1<=32):qd x m=if zJ m x.1=0 then(doS m x.1 x.2,0)else(m,zJ m x.1):=by show zW x.2 (ya x.1) m=_;rw[At _ h];rfl
theorem NY (v:Int) (ps:YI):∀ (row:YL) (m:MS),row.length=ps.length→(∀ (j:Nat) (p:Int) (x:Int×Int),ps[j]? = O p→row[j]? = O x→x.1=p∧(0≤p∧p≤32)∧yM p∧(p=0→x.2=v))→(zG row m).1=(zW v ps m).1∧(zG row m).2.1=(zW v ps m).2∧(ps≠[]→1≤(zG row m).2.2):=by
 induction ps with
 |nil=>intro row m hl _;obtain rfl:=length_eq_zero_iff.1 hl;exact⟨rfl,rfl,fun h=>absurd rfl h⟩
 |cons p ps ih=>
  intro row m hl h;cases row with
  |nil=>simp at hl
  |cons x row=>
   obtain⟨h1,h2,h3,h4⟩:=h 0 p x rfl rfl;subst h1;rw[zG,qP x m h2];unfold zW;by_cases h0:zJ m x.1=0;rw[if_pos h0,if_pos h0];simp only[if_true];have e:doS m x.1 x.2=doS m x.1 v:=by by_cases hz:x.1=0;rw[h4 hz];exact Sh m x.1 _ _ h3 hz
   rw[e];obtain⟨i1,i2,_⟩:=ih row (doS m x.1 v) (by simpa using hl) (fun j p y hp hy=>h (j+1) p y (by simpa using hp) (by simpa using hy));exact⟨i1,i2,fun _=>zo⟩;rw[if_neg h0,if_neg h0];simp only;rw[if_neg h0];exact⟨rfl,rfl,fun _=>Zc _⟩
theorem Cv {n:Int} {row:YL} {ps:YI} {v:Int} (h:kh n row ps=O v):(ps.count 0=0→v=n)∧(ps.count 0≤1→∀ (j:Nat) (x:Int×Int),ps[j]? = O 0→row[j]? = O x→x.2=v):=by
 induction ps generalizing n row with
 |nil=>unfold kh at h;exact⟨fun _=>(Zl h).symm,fun _ j x hj=>by simp at hj⟩
 |cons q ps ih=>
  cases row with
  |nil=>cases h
  |cons y r=>
   unfold kh at h;split at h;rename_i hy;obtain⟨i1,i2⟩:=ih h;by_cases hq:q=0;rw[if_pos hq]at i1;subst hq;simp only[count_cons_self];refine⟨fun hc=>zo,fun hc j x hj hx=>?_⟩;cases j with
   |zero=>simp at hx;subst hx;exact (i1 zo).symm
   |succ j=>exact i2 zo j x (by simpa using hj) (by simpa using hx)
   rw[if_neg hq]at i1;rw[count_cons_of_ne hq];refine⟨i1,fun hc j x hj hx=>?_⟩;cases j with
   |zero=>simp at hj;exact absurd hj hq
   |succ j=>exact i2 hc j x (by simpa using hj) (by simpa using hx)
   cases h
theorem oT(op:Nat)(h:40<=op)(b:op<60):(yj op).count 0<=1/\(∀p∈yj op,(0<=p/\p<=32)/\yM p)/\yj op≠[]/\ya op=yj op:=by have:∀k:Fin 20,(yj ((k.val+40:Nat):Int)).count 0<=1/\(∀p∈yj ((k.val+40:Nat):Int),(0<=p/\p<=32)/\yM p)/\yj ((k.val+40:Nat):Int)≠[]/\ya ((k.val+40:Nat):Int)=yj ((k.val+40:Nat):Int):=zd;have a:=this ⟨op-40,zo⟩;have e:op-40+40=op:=zo;simp only[e]at a;exact a
theorem Cz{row:YL}{p:Pc}(h:p∈xc row)(m:MS):(zG (row.take p.2.2.toNat) m).1=(qd (p.1,p.2.1) m).1/\(zG (row.take p.2.2.toNat) m).2.1=(qd (p.1,p.2.1) m).2/\1<=(zG (row.take p.2.2.toNat) m).2.2/\(40<=p.1/\p.1<60)/\1<=p.2.2.toNat/\∀(j:Nat)(x:Int×Int),j<p.2.2.toNat->row[j]? = O x->yM x.1:=by
 have g:=cS h;unfold xc qA at h;obtain⟨op,f,he⟩:=mem_filterMap.1 h;obtain⟨i,o,rfl⟩:=mem_map.1 f;have o:=mem_range.1 o;unfold bW at he;obtain⟨n,q,rfl⟩:=Option.map_eq_some_iff.1 he;obtain⟨u,v,l,w⟩:=oT (i+40) zo zo;simp only[Zr]at g ⊢;have c:=rD q;have d:∀(j:Nat)(p:Int)(x:Int×Int),(yj ((i+40:Nat):Int))[j]? = O p->row[j]? = O x->x.1=p/\(0<=p/\p<=32)/\yM p/\(p=0->x.2=n):=by intro j p x b a;obtain⟨y,r,e⟩:=c j p b;rw[a]at r;obtain rfl:=Zl r;have:=v p (Zd b);exact⟨e,this.1,this.2,fun z=>(Cv q).2 u j x (by rw[b,z]) a⟩
 have k:=NY n (yj ((i+40:Nat):Int)) (row.take (yj ((i+40:Nat):Int)).length) m (by rw[length_take];omega) (fun j p x b a=>by
   rw[getElem?_take]at a
   split at a
   · exact d j p x b a
   · cases a)
 have e:qd (((i+40:Nat):Int),n) m=zW n (yj ((i+40:Nat):Int)) m:=by show zW n (ya _) m=_;rw[w]
 rw[e];refine⟨k.1,k.2.1,k.2.2 l,zo,by have:=length_pos_iff.2 l;omega,fun j x b a=>?_⟩;obtain⟨p,g⟩:∃p,(yj ((i+40:Nat):Int))[j]? = O p:=⟨_,Za b⟩;obtain⟨s,_,t,_⟩:=d j p x g a;rw[s];exact t
theorem FB (row:YL) (n:Nat):∀ (i:Nat) (m:MS),row.length-i≤n→(zG (xp ((few row).map Prod.fst) n i) m).1=(zG (row.drop i) m).1∧(zG (xp ((few row).map Prod.fst) n i) m).2.1=(zG (row.drop i) m).2.1∧(zG (xp ((few row).map Prod.fst) n i) m).2.2≤(zG (row.drop i) m).2.2:=by
 induction n with
 |zero=>intro i m h;rw[drop_eq_nil_of_le zo];exact⟨rfl,rfl,Zc _⟩
 |succ n ih=>
  intro i m h;cases hx:row[i]? with
  |none=>
   have hl:=List.getElem?_eq_none_iff.1 hx;have:((few row).map Prod.fst)[i]? = X:=by rw[List.getElem?_eq_none_iff,length_map,vF];exact hl
   unfold xp;rw[this,drop_eq_nil_of_le hl];exact⟨rfl,rfl,Zc _⟩
  |some x=>
   have hil:=(Zb.1 hx).1;obtain⟨p,_,h2,h3⟩:=nu (n:=n) hx;rw[h2];rcases h3 with rfl|h3;have e:row.drop i=x :: row.drop (i+1):=by rw[drop_eq_getElem_cons hil,(Zb.1 hx).2]
   rw[e,zG,zG];simp only[Int.toNat_one];by_cases h0:(qd x m).2=0;have h0':(qd (x.1,x.2) m).2=0:=h0;rw[if_pos h0,if_pos h0'];obtain⟨i1,i2,i3⟩:=ih (i+1) (qd x m).1 zo;exact⟨i1,i2,Nat.succ_le_succ i3⟩;have h0':¬ (qd (x.1,x.2) m).2=0:=h0;rw[if_neg h0,if_neg h0'];exact⟨rfl,rfl,Zc _⟩;obtain⟨q1,q2,q3,_,q5,_⟩:=Cz h3 m;have e:row.drop i=(row.drop i).take p.2.2.toNat++row.drop (i+p.2.2.toNat):=by rw[← drop_drop,take_append_drop]
   have e2:zG (row.drop i) m=zG ((row.drop i).take p.2.2.toNat++row.drop (i+p.2.2.toNat)) m:=by rw[← e]
   rw[e2,wX,zG];rw[q1,q2];by_cases h0:(qd (p.1,p.2.1) m).2=0;rw[if_pos h0,if_pos h0];obtain⟨i1,i2,i3⟩:=ih (i+p.2.2.toNat) (qd (p.1,p.2.1) m).1 zo;exact⟨i1,i2,by simp only;omega⟩;rw[if_neg h0,if_neg h0];exact⟨q1.symm,q2.symm,q3⟩
theorem Av (row:YL) (hr:xJ row) (n:Nat):∀ i:Nat,xJ (xp ((few row).map Prod.fst) n i):=by
 induction n with
 |zero=>intro i j x hx;simp[xp]at hx
 |succ n ih=>
  intro i;cases hx:row[i]? with
  |none=>
   have hl:=List.getElem?_eq_none_iff.1 hx;have:((few row).map Prod.fst)[i]? = X:=by rw[List.getElem?_eq_none_iff,length_map,vF];exact hl
   unfold xp;rw[this];intro j x hx;simp at hx
  |some x=>
   obtain⟨p,_,h2,h3⟩:=nu (n:=n) hx;rw[h2];intro j y hy hj;cases j with
   |succ j=>exact ih _ j y (by simpa using hy) (by simpa using hj)
   |zero=>
    simp at hy;subst hy;rcases h3 with rfl|h3;by_cases hend:i+1<row.length;exact hr i x hx hend;exfalso;have:xp ((few row).map Prod.fst) n (i+((x.1,x.2,(1:Int)):Pc).2.2.toNat)=[]:=by
     cases n with
     |zero=>rfl
     |succ n=>unfold xp;rw[getElem?_eq_none];rw[length_map,vF];simp only[Int.toNat_one];omega
    rw[this]at hj;simp at hj;obtain⟨_,_,_,q4,_⟩:=Cz h3 (zZ 0 1 1 1 1 0 0);unfold yM;simp only;omega
theorem LG{p:PrS}(d:yl p):kf p (wM p):=by
 have ok:=xF d;have c:∀b∈zt p.1 p.2,∀y∈b.2,y∈p.1:=fun b a y i=>by rw[<-ok.flat];exact mem_flatMap.2 ⟨b,a,i⟩
 refine im d (f:=fun b=>(b.1,xf b.2)) (fun b=>rfl) (G:=fun _=>True) trivial (fun b a=>⟨Av b.2 (qq d a) _ _,fun y i g=>?_⟩) (fun _ _ _=>⟨fun _ _ _=>trivial,fun _ _ _=>trivial⟩) (fun b a _ m _ _ _=>?_);rcases ow b.2 (fun x l=>d.K x (c b a x l)) _ _ y i with h|h;exact⟨y,c b a y h,g,rfl⟩;rw[cO (Zf zo)]at g;cases g;obtain⟨e,j,k⟩:=FB b.2 b.2.length 0 m zo;rw[drop_zero]at e j k;exact⟨j,k,by show(zG (xp _ _ _) m).1.out=_;rw[e],fun _=>e⟩
def lI:Prop:=∀(fb tb:Nat)(rv:Value)(ao:YA)(c:Nat) (row:YL) (w:YW),wi w fb tb rv→Lib.TabIs prog w "internal/strconv.uint64pow10" .u64 Lib.pow10Tab→InL w ao row→row.length≤1000→(∀x∈row,inI x.2) →
  Calls prog 199 #[A (O ⟨fb,0,X⟩),S ao row.length c] w fun e w'=>aD w.heap.size w' (qN row) e/\Below w.heap.size w w'
def sK(fb:Nat)(bs:List (Nat×Nat)):Array Value:=#[.func (.func 198) #[A (O ⟨fb,0,X⟩)] #[],.func (.func 199) #[A (O ⟨fb,0,X⟩)] #[],.func (.func 200) #[] #[]]++(bs.reverse.map isV).toArray
structure bP(w:YW)(fb tb rb:Nat)(bs:List (Nat×Nat)):Prop where
 fold:Blk w fb #[A (O ⟨tb,0,X⟩),S (O ⟨rb,0,X⟩) 25 25] 203
 tab:bu w tb
 rules:Blk w rb (sK fb bs) 239
 list:xI w (bs.map isV) fN
theorem bu.far{w:YW}{f:Nat}(h:bu w f){b:Nat}{k:YV}(d:Blk w b k 73)(i:Nat)(v:Value):bu (w.setCell ⟨b,i,X⟩ v) f:=by obtain⟨cs,e,g,j⟩:=h;exact⟨cs,e.far (a:=⟨b,i,X⟩) (cE e d zd) _,g.keep (js.prog d i v),fun op a c=>(j op a c).keep (js.prog d i v)⟩
theorem bP.z{w w':YW}{c e d:Nat}{b:List (Nat×Nat)}(h:bP w c e d b)(a:Below w.heap.size w w'):bP w' c e d b:=⟨h.fold.z a h.fold.lt,h.tab.z a,h.rules.z a h.rules.lt,h.list.1,fun j v s g f=>(h.list.2 j v s g f).z a⟩
theorem bP.far{w:YW}{e g f:Nat}{d:List (Nat×Nat)}(h:bP w e g f d){b:Nat}{m:YV}(c:Blk w b m 73)(i:Nat)(v:Value):bP (w.setCell ⟨b,i,X⟩ v) e g f d:=⟨h.fold.far (a:=⟨b,i,X⟩) (cE h.fold c zd) _,h.tab.far c i v,h.rules.far (a:=⟨b,i,X⟩) (cE h.rules c zd) _,h.list.1,fun j u s l k=>(h.list.2 j u s l k).far c zd zd zd zd i v⟩
theorem mO(a:Nat)(b:List (Nat×Nat))(j:Nat)(c:j<3):(sK a b)[j]? = #[Value.func (.func 198) #[A (O ⟨a,0,X⟩)] #[],.func (.func 199) #[A (O ⟨a,0,X⟩)] #[],.func (.func 200) #[] #[]][j]?:=by unfold sK;rw[Array.getElem?_append_left (by simpa using c)]
theorem Hq:∃a:Func,prog.funcs[198]? = O a∧(a.name == "runtime.NumGoroutine")=Z∧a.body.isNone=Z:=⟨_,func198,zr,zr⟩
theorem Kx:∃a:Func,prog.funcs[199]? = O a∧(a.name == "runtime.NumGoroutine")=Z∧a.body.isNone=Z:=⟨_,func199,zr,zr⟩
theorem Ky:∃a:Func,prog.funcs[200]? = O a∧(a.name == "runtime.NumGoroutine")=Z∧a.body.isNone=Z:=⟨_,func200,zr,zr⟩
theorem fk:kz=[yH,qN,jl]++fN.reverse.map (fun s=>isS s.1 s.2):=rfl
theorem Dz:∀s∈fN,s.1.length<=1000/\s.2.length<=1000:=zd
theorem bP.isAt (hch : lI) {w : World} {fb tb rb : Nat} {bs : List (Nat × Nat)} (h : bP w fb tb rb bs) (ht : Lib.TabIs prog w "internal/strconv.uint64pow10" .u64 Lib.pow10Tab) : cu w fb tb rb := by
 have hf:wi w fb tb (S (O ⟨rb,0,X⟩) 25 25):=⟨h.fold,h.tab⟩;have hc:=h.rules.u;refine⟨hf,h.rules.lt,fun j r hr=>?_⟩;rw[hc];match j,hr with
 |0, hr=>rw[fk]at hr;simp at hr;subst hr;exact⟨_,mO fb bs 0 zo,_,_,_,rfl,Hq,fun w' hw' ao c row hin hp hl hi=>rH fb tb _ ao c row w' (hf.z hw') (Lib.tabBelow_of_tabIs ht w' hw') hin hp hl hi⟩
 |1, hr=>rw[fk]at hr;simp at hr;subst hr;exact⟨_,mO fb bs 1 zo,_,_,_,rfl,Kx,fun w' hw' ao c row hin _ hl hi=>hch fb tb _ ao c row w' (hf.z hw') (Lib.tabBelow_of_tabIs ht w' hw') hin hl hi⟩
 |2, hr=>rw[fk]at hr;simp at hr;subst hr;exact⟨_,mO fb bs 2 zo,_,_,_,rfl,Ky,fun w' hw' ao c row hin _ hl _=>Ha ao c row w' hin zo⟩
 |j + 3, hr=>
  rw[fk,Zw zs]at hr;simp only[length_cons,length_nil,Nat.zero_add,Nat.reduceAdd,Nat.add_sub_cancel,Zn]at hr;obtain⟨s,hs,rfl⟩:=Option.map_eq_some_iff.1 hr;have hl:bs.length=fN.length:=by have:=h.list.1;rwa [length_map]at this
  have hj:=(Zb.1 hs).1;rw[length_reverse]at hj;rw[getElem?_reverse hj]at hs;obtain⟨b,hb⟩:∃ b,bs[fN.length-1-j]? = O b:=⟨_,Za zo⟩;refine⟨isV b,?_,(h.list.2 (fN.length-1-j) (isV b) s (by rw[Zn,hb];rfl) hs).rule (Dz s (Zd hs))⟩;unfold sK;rw[Array.getElem?_append_right zs];simp only[getElem?_toArray,Zn,size_toArray,length_cons,length_nil,Nat.zero_add,Nat.reduceAdd,Nat.add_sub_cancel];rw[getElem?_reverse zo,hl,hb];rfl
theorem DB(w:YW):Calls prog 80 #[] w fun e w'=>∃E i u y,e=Rt (A (O ⟨E,0,X⟩))/\bP w' E i u y/\Below w.heap.size w w':=by have D:=V (rA w);go_enter func80,ntmps80;go_wp2_with fail;refine D.m ?_;rintro e c ⟨i,rfl,f,p⟩;have o:=V f;have k:=V p;have B:=V (DA c.heap.size (c.alloc (C #[A (O ⟨i,0,X⟩),S X 0 0] 203)));have z:=V (Blk.new c #[A (O ⟨i,0,X⟩),S X 0 0] 203);have l:=V (zB c (C #[A (O ⟨i,0,X⟩),S X 0 0] 203));clear f p D;go_wp2_with fail;refine B.m ?_;rintro e F ⟨u,y,rfl,t,r,h⟩;have b:=Blk.z z h z.lt;have g:=V b;have G:=b.u;have H:=b.H;have K:=b.lt;have n:=V t;have m:=V r;have x:Hid (Below c.heap.size c F):=l.trans (h.m l.size);clear t r h b B;go_wp2;go_ret;have d:=g.set 1 (S (O ⟨u,0,X⟩) 25 25);simp only[Zt,set_cons_succ,set_cons_zero]at d;have q:Below c.heap.size c (F.setCell ⟨c.heap.size,1,X⟩ (S (O ⟨u,0,X⟩) 25 25)):=x.setCell (Zc _) _;exact⟨c.heap.size,i,u,y,rfl,⟨d,o.z q,n.far (a:=⟨c.heap.size,1,X⟩) (cE n g zd) _,m.1,fun j v s M L=>(m.2 j v s M L).far g zd zd zd zd 1 _⟩,k.trans (q.m k.size)⟩
theorem Dy(fb tb rb:Nat)(ao:YA)(c:Nat)(row:YL)(w:YW)(hf:cu w fb tb rb)(e0:InL w ao row)(hn:row.length<=100000)(o0:row.length<=c)(h0:∀x∈row,yu x):Calls prog 154 #[A (O ⟨fb,0,X⟩),S ao row.length c] w (aB w (xg row row.length)):=by
 have A0:(row.length:Int)<=100000:=zo;have k0:(row.length:Int)<=c:=zo;have HF:=V hf;have Q:=V e0;have M:=V h0;clear hf e0 h0;go_enter func154,ntmps154;go_wp2;go_loopw [5,11] (fun v i wr=>∃(k:Nat)(a:YA)(c:Nat),i=I J k/\v=S a (xg row k).length c/\yD w.heap.size wr (S a (xg row k).length c) (xg row k)/\k<=row.length/\Below w.heap.size w wr) (fun _ i _=>row.length-(intOf i).toNat);case atStart=>exact⟨0,X,0,rfl,rfl,Zm _ _ _ _,Zq _,Ze _ _⟩
 case round=>
  obtain⟨k,a,c1,rfl,rfl,l,hk,m⟩:=hrel;have b0:=V l;have j0:=V m;by_cases n0:k<row.length
  ·obtain⟨x,hx⟩:∃x,row[k]? = O x:=⟨_,Za n0⟩;obtain⟨g,off,rfl,v0,d1,d2⟩:=ju (Q.z m) hx;have r0:(k:Int)<row.length:=zo;have a0:Hid (xg row (k+1)=xb ((row.drop (k+1)).take 1) ((xg row k).length+1) (xg row k++[x])):=by show xg row (k+1)=_;rw[xg,hx]
   have u0:=ij row k;have c0:=pO row M k;have i0:=U M x (Zd hx);obtain⟨b,d⟩:=x;simp only at d1 d2;generalize xg row k=o at *;have N:=yG wr (C #[I J b,I J d] 65) (C #[I J b,I J d] 65);have z:=V (l.z N);have T:Hid (InL ((wr.alloc (C #[I J b,I J d] 65)).alloc (C #[I J b,I J d] 65)) (O ⟨wr.heap.size+1,0,X⟩) [(b,d)]):=by have n:=vD wr (C #[I J b,I J d] 65) #[I J b,I J d] 65;refine Zf ⟨wr.heap.size+1,0,rfl,n.lt,fun j u hj=>?_⟩;rw[n.u,Nat.zero_add];simpa [zc]using hj
   have f:Hid (Below w.heap.size w ((wr.alloc (C #[I J b,I J d] 65)).alloc (C #[I J b,I J d] 65))):=m.trans (N.m m.size);have n:=Blk.new wr #[I J b,I J d] 65;have t0:=n.u;have y0:=n.lt
   have B:Hid (∀(no:YA)(nc:Nat) (next:YL) (W:YW) (D:YA) (c3:Nat),next=(row.drop (k+1)).take 1->InL w no next->Below w.heap.size w W->yD w.heap.size W (S D (o++[(b,d)]).length c3) (o++[(b,d)])->Calls prog 204 #[A (O ⟨fb,0,X⟩),S D (o++[(b,d)]).length c3,S no next.length nc] W fun e w'=>∃a c',e=Rt (S a (xg row (k+1)).length c')/\yD w.heap.size w' (S a (xg row (k+1)).length c') (xg row (k+1))/\Below w.heap.size w w'):=fun no nc next W D c3 t f0 hW ho=>by
     have E:(o++[(b,d)]).length=o.length+1:=zs
     have:=IH fb tb rb D no c3 nc (o++[(b,d)]) next w W HF hW ho f0 zo (by rw[t,length_take];omega) (fun y P=>by
       rcases Zo.1 P with h|h
       · exact c0 y h
       · simp at h;subst h;exact i0) (fun y P=>by
       rw[t]at P
       exact U M y (mem_of_mem_drop (mem_of_mem_take P)))
     rw[E,t]at this
     rw[U a0]
     rw[E,t]
     exact this
   have w0:IntKind.i64.wrap ((k:Int)+1)=(k:Int)+1:=zw;have x0:IntKind.i64.wrap ((k:Int)+2)=(k:Int)+2:=zw;clear l m N n c0 i0;by_cases d0:k+1<row.length
   ·have g0:min ((k:Int)+2) (row.length:Int)=(k:Int)+2:=zo;have l0:(k:Int)+1<row.length:=zo;have q0:(k:Int)+2<=c:=zo;obtain⟨y,P⟩:∃y,row[k+1]? = O y:=⟨_,Za d0⟩;have s:Hid ([y]=(row.drop (k+1)).take 1):=by show [y]=_;rw[List.take_one,head?_drop,P];rfl
    have R:Hid (InL w (O ⟨g,off+(k+1)*2,X⟩) [y]):=by show InL _ _ _;rw[U s];exact(Q.drop (k+1)).take 1
    go_wp2_with (at_builtin;refine vz rfl (.tmp 26) (.tmp 28) rfl w.heap.size w _ o [(b,d)] (O ⟨wr.heap.size+1,0,X⟩) 1 zf zf z T zp f f.size _ rfl ?_;intro D c3 w3 K F);have E:(o++[(b,d)]).length=o.length+1:=zs;have q:[y].length=1:=rfl;have H:=V (U B (O ⟨g,off+(k+1)*2,X⟩) (c-(k+1)) [y] w3 D c3 s R F K);rw[E,q]at H;refine H.m ?_;rintro e w4 ⟨a4,c4,rfl,r,p⟩;have L:=V r;have G:=V p;clear r p H E q;go_wp2;go_roundw;case rel=>exact⟨k+1,a4,c4,by go_num,rfl,U L,zo,U G⟩
    case measure=>exact zv
   ·have g0:min ((k:Int)+2) (row.length:Int)=(k:Int)+1:=zo;have p0:(k:Int)+1<=c:=zo;have s:Hid (([]:YL)=(row.drop (k+1)).take 1):=by show _=_;rw[drop_of_length_le zo];rfl
    obtain⟨ad,s0⟩:∃ad,(if c=k+1 then(O ⟨g,off,X⟩:YA)else O ⟨g,off+(k+1)*2,X⟩)=ad:=⟨_,rfl⟩;go_wp2_with (at_builtin;refine vz rfl (.tmp 26) (.tmp 28) rfl w.heap.size w _ o [(b,d)] (O ⟨wr.heap.size+1,0,X⟩) 1 zf zf z T zp f f.size _ rfl ?_;intro D c3 w3 K F);have E:(o++[(b,d)]).length=o.length+1:=zs;have q:([]:YL).length=0:=rfl;have H:=V (U B ad (c-(k+1)) [] w3 D c3 s (Zg rfl) F K);rw[E,q]at H;refine H.m ?_;rintro e w4 ⟨a4,c4,rfl,r,p⟩;have L:=V r;have G:=V p;clear r p H E q;go_wp2;go_roundw;case rel=>exact⟨k+1,a4,c4,by go_num,rfl,U L,zo,U G⟩
    case measure=>exact zv
  ·have m0:k=row.length:=zo;subst m0;clear l m;go_wp2;go_ret;exact⟨a,c1,rfl,U b0,U j0⟩
theorem eV (ao:YA) (c en:Nat) (ce:Int) (l:YL) (w:YW) (hin:InL w ao l) (hn:l.length≤100000) (hen:en<l.length) (hj:∀ x∈l,zT x.1=Y→0≤x.2∧x.2<l.length) : Calls prog 85 #[Ag #[S ao l.length c,I J en,I J ce]] w fun e w'=>∃ lg lc rs,e=Rt (S (O ⟨lg,0,X⟩) rs.length lc)∧jh w.heap.size w' lg lc rs∧rs.map LBl.blo=zt l en∧Below w.heap.size w w':=by
 have hnI:(l.length:Int)≤100000:=zo;obtain⟨iB,hiB,hzB0,hzB1,hzB2⟩:=info_parts IV;obtain⟨iI,hiI,hzI0,hzI1,hzI2⟩:=info_parts yJ;have hP:=Blk.new w #[S ao l.length c,I J en,I J ce] 73;have hbP:=zB w (C #[S ao l.length c,I J en,I J ce] 73);have HBEG:=V (Ba ao c en ce l _ (hin.z hbP) hn hen hj);have HP:=V hP;have HBP:=V hbP;have HIN:=V hin;have HFI:=V (ic l (kN l en) (dg l en l.length));have hbl:(kN l en).length=l.length+1:=cC l en l.length;rw[hbl]at HBEG;have HBL:=V hbl;have h0:=dg l en l.length;obtain⟨beg,hbeg⟩:∃ beg,beg=kN l en:=⟨_,rfl⟩;have HRES:Hid (zt l en=xv l beg l.length):=by rw[hbeg];exact V rfl
 rw[← hbeg]at HBEG HFI HBL;have HH0:Hid (beg.getD 0 Z=Y):=by rw[hbeg];exact h0
 clear hP hbP hin hj hbeg hbl h0;go_enter func85,ntmps85;go_wp2_with fail;refine HBEG.m ?_;rintro e W2 ⟨gb,rfl,hob,hb2⟩;have hp2:=Blk.z HP hb2 zs;have HP2:=V hp2;have HB20:Hid (Below w.heap.size w W2):=HBP.trans (hb2.m HBP.size);have HOB:=V hob;have hcp:=hp2.u;have hlp:=hp2.lt;clear HBEG hob hb2 hp2 HP HBP;go_wp2;go_loopw [3,12] (fun lv i wr=>∃ k:Nat,i=I J k∧k≤l.length∧de W2.heap.size wr lv (xv l beg k)∧Below W2.heap.size W2 wr) (fun _ i _=>l.length-(intOf i).toNat);case atStart=>exact⟨0,rfl,Zq _,Zg ⟨rfl,rfl⟩,Ze _ _⟩
 case round=>
  clear hcp hlp;obtain⟨k,rfl,hk,hrun,hbw⟩:=hrel;have HRUN:=V hrun;have HBW:=V hbw;by_cases hlt:k<l.length
  ·obtain⟨x,hx⟩:∃ x,l[k]? = O x:=⟨_,Za hlt⟩;have hin2:=HIN.z HB20;obtain⟨ag,aoff,rfl,hagl0,c10,c20⟩:=ju hin2 hx;have hltI:(k:Int)<l.length:=zo;have hlt1:(k:Int)<(l.length:Int)+1:=zo;have HNX:Hid (xv l beg (k+1)=vB (xv l beg k) (beg.getD k Z) k x):=by show xv l beg (k+1)=_;rw[xv,hx]
   have hfi:=U HFI k hk;have HF:=V hfi;obtain⟨b,hbk⟩:∃ b,beg[k]? = O b:=⟨_,Za (by have:=U HBL;omega)⟩;have hgd:beg.getD k Z=b:=by rw[Zj,hbk];rfl
   have hcb0:=(HOB.u hbk);have hbgl:=HOB.lt.1;have hcb:wr.cell? ⟨gb,k,X⟩=O (Bl b):=by rw[hbw.u (by simpa using hbgl)];exact hcb0
   have hgbl:gb<wr.heap.size:=by have:=hbw.size;omega
   rw[hgd]at HNX;have HK0:Hid (k=0→b=Y):=fun e=>by subst e;rw[← hgd];exact U HH0
   have hsz:=hbw.size;obtain⟨x1,x2⟩:=x;simp only at c10 c20
   have HX:Hid (∀ W,Below W2.heap.size W2 W→(W.cell? ⟨ag,aoff+k * 2,X⟩=O (I J x1)∧W.cell? ⟨ag,aoff+k * 2+1,X⟩=O (I J x2)∧ag<W.heap.size)∧(∀ i,W.cell? ⟨w.heap.size,i,X⟩=#[Value.slice (O ⟨ag,aoff,X⟩) l.length c,I J en,I J ce][i]?)∧w.heap.size<W.heap.size):=fun W hW=>by
     have h1:=HP2.z hW HP2.lt
     refine⟨⟨?_,?_,by have:=hW.size;omega⟩,h1.u,h1.lt⟩
     · rw[hW.u (by simpa using hagl0)];exact c10
     · rw[hW.u (by simpa using hagl0)];exact c20
   obtain⟨la,n0,lc0,cells,hlv,hn0,hrow⟩:=hrun.row;have hn0k:n0≤k:=by rw[hn0];exact hfi.len
   subst hlv;have HROW:=V hrow;have HN0:=V hn0;clear hbw hx hbk hgd hbgl hrow hn0 hin2 c10 c20 hagl0 hcb0 hfi;cases b with
   |true=>
    clear hrun HK0;have HW:=V (zE HROW (C #[I J k,S X 0 0] 161));have HNB:=V (Blk.new wr #[I J k,S X 0 0] 161);have HBS:Hid (W2.heap.size≤(wr.alloc (C #[I J k,S X 0 0] 161)).heap.size):=V zp;have HRUN':Hid (de W2.heap.size wr (S la n0 lc0) (xv l beg k)):=HRUN;have hsubn:IntKind.i64.wrap ((n0:Int)+1-1)=n0:=zw;have hnn:(n0:Int)<(n0:Int)+1:=zo;have hnI2:(n0:Int)≤100000:=zo;go_wp2_with (at_builtin;refine wpList_append_lies _ rfl (.tmp 19) (.tmp 22) 158 rfl W2.heap.size 161 iB _ 2 32 underlying158 hiB hzB0 hzB1 hzB2 rfl zd (S la n0 lc0) n0 cells zf HW ⟨wr.heap.size,0,X⟩ 1 1 [I J k,S X 0 0] zf rfl (World.news_of_block HNB) (Fu _ _ _ _) zo zm zo HBS _ rfl ?_;intro lg lc W hown hgrow hat hlt5;have HBN:=V (de.begin HRUN' HBW hsz HN0 HROW k hgrow hown hat hlt5);clear hown hgrow hat);obtain⟨rs,hbl,hrs,hbW⟩:=U HBN;have HBR:=V hbl;have HBWW:=V hbW;have HEQ:Hid (rs.map LBl.blo++[(k,([]:YL)++[(x1,x2)])]=xv l beg (k+1)):=by show _=_;rw[U HNX,hrs];unfold vB;rw[if_pos rfl,kr]
    have hBM:W2.heap.size≤W.heap.size:=hbW.size;obtain⟨M,hM⟩:∃ M,M=W.heap.size:=⟨_,rfl⟩;rw[← hM]at HBR hBM;have hWM:M≤W.heap.size:=zo;clear HBN HRUN HRUN' HROW HW HNB HBS hbl hrs hbW hcb hgbl hM;have hcl1:=(zD HBR.own (n0 * 2) zo).trans (wQ (rs++[(k,X,0,([]:YL))]) n0 (k,X,0,([]:YL)) (by rw[HBR.num];simp)).1;have hcl2:=(zD HBR.own (n0 * 2+1) zo).trans (wQ (rs++[(k,X,0,([]:YL))]) n0 (k,X,0,([]:YL)) (by rw[HBR.num];simp)).2;simp only at hcl1 hcl2;have HE2:Hid ((qw (rs++[(k,X,0,([]:YL))]))[n0 * 2+1]? = O (S X 0 0)):=(wQ (rs++[(k,X,0,([]:YL))]) n0 (k,X,0,([]:YL)) (by rw[HBR.num];simp)).2;have hfl:=yB HBR.own;have hll:=(zC HBR.own (k:=lg) rfl).1;obtain⟨⟨c1,c2,hagl⟩,hcp,hlp⟩:=U HX W HBWW;have HWO:=V (zE HBR.last (C #[I J x1,I J x2] 65));have HMS:Hid (M≤(W.alloc (C #[I J x1,I J x2] 65)).drew.heap.size):=V (by have:=HBR.size;show M≤(W.alloc _).heap.size;simp;omega)
    have HKP:Hid (∀ w3,(W.alloc (C #[I J x1,I J x2] 65)).drew.grownBy w3 (Value.slice X 0 0).ownBlock→w3.ownsRow W2.heap.size 161 2 (S (O ⟨lg,0,X⟩) (n0+1) lc) (n0+1) (qw (rs++[(k,X,0,([]:YL))]))):=fun w3 hg=>by
      refine World.ownsRow.kept (w:=(W.alloc (C #[I J x1,I J x2] 65)).drew) (zE HBR.own (C #[I J x1,I J x2] 65)) hg (Zf ?_)
      intro e
      have:=(zC HBR.last (k:=lg) e.symm).2
      have:=HBR.low
      omega
    skip;go_region_law (refine step_append_lies _ rfl (.tmp 33) (.tmp 39) 33 rfl M 65 iI _ 2 16 underlying33 hiI hzI0 hzI1 hzI2 rfl zd (S X 0 0) 0 (zc ([]:YL)) zf HWO ⟨W.heap.size,0,X⟩ 1 1 [I J x1,I J x2] zf rfl (World.news_of_block (Blk.new W _ _)) (jL x1 x2) zo zm zo HMS _ rfl ?_;intro g3 cap3 w3 hown3 hgrow3 hat3 hlt3;have HO3:=V hown3;have HG3:=V hgrow3;have hkeep3:=U HKP w3 hgrow3;have hc3:=(zD hkeep3 (n0 * 2+1) zo).trans HE2;have hf3:=yB hkeep3;have hl3:=(zC hkeep3 (k:=lg) rfl).1;clear hown3 hgrow3 hat3 hkeep3);all_goals
     go_wp2;go_roundw;case rel=>have hfin:=BlR.next HBR x1 x2 HBWW hBM HG3 HO3;exact⟨k+1,by go_num,zo,de.ofR hfin.1 HEQ,hfin.2⟩
     case measure=>exact zv
   |false=>
    have hne:xv l beg k≠[]:=HF.some (by
      refine Nat.pos_of_ne_zero (fun e=>?_)
      have:=U HK0 e
      cases this)
    obtain⟨W,hW⟩:∃ W:YW,W=wr:=⟨_,rfl⟩;rw[hW.symm]at hrun HBW hcb hgbl hsz ⊢;clear hW;rcases hrun with ⟨h1,_⟩|⟨M,lg,lc,n1,rs,f,ra,rc,row,hlv,hbr,hrs⟩;exact absurd h1 hne;simp only[Zk]at hlv;obtain⟨rfl,rfl,rfl⟩:=hlv;have hrl:row.length≤k:=HF.row (b:=(f,row)) (by rw[← hrs];simp);have HBR:=V hbr;have HBWW:=HBW;have HEQ:Hid (rs.map LBl.blo++[(f,row++[(x1,x2)])]=xv l beg (k+1)):=by show _=_;rw[U HNX,← hrs];unfold vB;rw[if_neg zs,kr]
    have hBM:W2.heap.size≤M:=by have:=(zC hbr.own (k:=lg) rfl).2;have:=hbr.low;omega
    clear HRUN HROW hne hrs hbr HK0;obtain⟨n0,hn0⟩:∃ n0,n0=n1:=⟨_,rfl⟩;rw[← hn0]at HBR hn0k ⊢;clear hn0;have hn0k:n0≤k:=zo;have hsubn:IntKind.i64.wrap ((n0:Int)+1-1)=n0:=zw;have hnn:(n0:Int)<(n0:Int)+1:=zo;have hnI2:(n0:Int)≤100000:=zo;have hcl1:=(zD HBR.own (n0 * 2) zo).trans (wQ (rs++[(f,ra,rc,row)]) n0 (f,ra,rc,row) (by rw[HBR.num];simp)).1;have hcl2:=(zD HBR.own (n0 * 2+1) zo).trans (wQ (rs++[(f,ra,rc,row)]) n0 (f,ra,rc,row) (by rw[HBR.num];simp)).2;simp only at hcl1 hcl2;have HE2:Hid ((qw (rs++[(f,ra,rc,row)]))[n0 * 2+1]? = O (S ra row.length rc)):=(wQ (rs++[(f,ra,rc,row)]) n0 (f,ra,rc,row) (by rw[HBR.num];simp)).2;have hfl:=yB HBR.own;have hll:=(zC HBR.own (k:=lg) rfl).1;obtain⟨⟨c1,c2,hagl⟩,hcp,hlp⟩:=U HX W HBWW;have HWO:=V (zE HBR.last (C #[I J x1,I J x2] 65));have HMS:Hid (M≤(W.alloc (C #[I J x1,I J x2] 65)).drew.heap.size):=V (by have:=HBR.size;show M≤(W.alloc _).heap.size;simp;omega)
    have HKP:Hid (∀ w3,(W.alloc (C #[I J x1,I J x2] 65)).drew.grownBy w3 (Value.slice ra row.length rc).ownBlock→w3.ownsRow W2.heap.size 161 2 (S (O ⟨lg,0,X⟩) (n0+1) lc0) (n0+1) (qw (rs++[(f,ra,rc,row)]))):=fun w3 hg=>by
      refine World.ownsRow.kept (w:=(W.alloc (C #[I J x1,I J x2] 65)).drew) (zE HBR.own (C #[I J x1,I J x2] 65)) hg (Zf ?_)
      intro e
      have:=(zC HBR.last (k:=lg) e.symm).2
      have:=HBR.low
      omega
    go_wp2;go_region_law (refine step_append_lies _ rfl (.tmp 33) (.tmp 39) 33 rfl M 65 iI _ 2 16 underlying33 hiI hzI0 hzI1 hzI2 rfl zd (S ra row.length rc) row.length (zc row) zf HWO ⟨W.heap.size,0,X⟩ 1 1 [I J x1,I J x2] zf rfl (World.news_of_block (Blk.new W _ _)) (jL x1 x2) zo zm zo HMS _ rfl ?_;intro g3 cap3 w3 hown3 hgrow3 hat3 hlt3;have HO3:=V hown3;have HG3:=V hgrow3;have hkeep3:=U HKP w3 hgrow3;have hc3:=(zD hkeep3 (n0 * 2+1) zo).trans HE2;have hf3:=yB hkeep3;have hl3:=(zC hkeep3 (k:=lg) rfl).1;clear hown3 hgrow3 hat3 hkeep3);all_goals
     go_wp2;go_roundw;case rel=>have hfin:=BlR.next HBR x1 x2 HBWW hBM HG3 HO3;exact⟨k+1,by go_num,zo,de.ofR hfin.1 HEQ,hfin.2⟩
     case measure=>exact zv
  ·have hkk:k=l.length:=zo;subst hkk;obtain⟨lg,lc,rs,rfl,hbl,hrs⟩:=hrun.done ((U HFI l.length (Zc _)).some zo);have HBL2:=V hbl;have HRS:=V hrs;clear hrun hbw hbl hrs;go_wp2;go_ret;exact⟨lg,lc,rs,rfl,HBL2.K HB20.size,by rw[U HRS,U HRES],HB20.trans (HBW.m HB20.size)⟩
def kF(w:YW)(p:PrS)(ce:Int)(e:Ending)(w':YW):Prop:=∃a c,e=Rt (Ag #[S a p.1.length c,I J p.2,I J ce])/\yD w.heap.size w' (S a p.1.length c) p.1/\Below w.heap.size w w'
theorem KA(fb tb rb:Nat)(G:YA)(c en:Nat)(ce:Int)(l:YL)(w:YW)(hf:cu w fb tb rb)(x0:InL w G l)(hp:yl (l,en)):Calls prog 84 #[A (O ⟨fb,0,X⟩),Ag #[S G l.length c,I J en,I J ce]] w (kF w (yw l.length en ((zt l en).map (fun b=>(b.1,xA b.2)))) ce):=by
 have N:=yG w (C #[S G l.length c,I J en,I J ce] 73) (C #[S X 0 0,I J 0,I J 0] 73);have hP:Blk ((w.alloc (C #[S G l.length c,I J en,I J ce] 73)).alloc (C #[S X 0 0,I J 0,I J 0] 73)) w.heap.size #[S G l.length c,I J en,I J ce] 73:=(Blk.new w _ _).alloc _;have hR:=vD w (C #[S G l.length c,I J en,I J ce] 73) #[S X 0 0,I J 0,I J 0] 73;have b0:((w.alloc (C #[S G l.length c,I J en,I J ce] 73)).alloc (C #[S X 0 0,I J 0,I J 0] 73)).heap.size=w.heap.size+2:=zs;have W:en<l.length:=hp.entry;have D0:l.length<=5000:=hp.R;have f:=wR (l:=l) (en:=en);have h:=f.flat;rw[take_length]at h;have m0:=V (eV G c en ce l _ (x0.z N) zo W hp.N);have T:Hid (∀b∈zt l en,∀x∈b.2,x∈l):=fun b B x hx=>by rw[<-h];exact mem_flatMap.2 ⟨b,B,hx⟩
 have s0:Hid (∀b∈zt l en,b.2.length<=5000):=fun b B=>Nat.le_trans (f.row B) D0;have n0:=V f.low;have f1:(zt l en).length<=l.length:=f.len;have HP:=V hP;have HR:=V hR;have P0:=V N;have c1:=V hp;have u0:=V b0
 have p0:Hid (∀b∈(zt l en).map (fun b=>(b.1,xA b.2)),∀x∈b.2,zT x.1=Y->0<=x.2/\x.2<l.length):=fun b B x hx hn=>by
   obtain⟨b',g0,rfl⟩:=mem_map.1 B
   exact pN (P:=fun t=>0<=t/\t<(l.length:Int)) b'.2 (fun y hy W0=>hp.N y (U T b' g0 y hy) W0) b'.2.length x hx hn
 have H0:Hid (((zt l en).flatMap (·.2)).length<=5000):=by rw[h];exact D0
 have c0:Hid (∀x∈l,yu x):=hp.K;have I0:=V (hf.z N);generalize R0:zt l en=H at *;clear N hP hR hp f h x0 b0 R0 hf;go_enter func84,ntmps84;go_wp2_with fail;generalize ((w.alloc (C #[S G l.length c,I J en,I J ce] 73)).alloc (C #[S X 0 0,I J 0,I J 0] 73))=W1 at *;refine m0.m ?_;rintro e W2 ⟨lg,lc,rs,rfl,d,k0,w0⟩;have E:rs.length=H.length:=by rw[<-k0,length_map]
 have a0:=d.lt;have G0:=V d;have O0:=V k0;have E0:=V w0;have R:=V E;obtain⟨m,hm⟩:∃m,m=rs.length:=⟨_,rfl⟩;rw[<-hm]at E ⊢;have HM:=V hm;have m1:m<=5000:=zo;have n1:(m:Int)<=5000:=zo;have L0:Hid (W1.heap.size<=lg):=a0.2;clear d k0 w0 m0 hm E a0;go_wp2;go_loopw [11] (fun i wr=>∃(k:Nat)(o:List LBl),i=I J k/\k<=m/\o.length=m/\jh W1.heap.size wr lg lc o/\o.map LBl.blo=vV (fun b=>(b.1,xA b.2)) H k/\Below W1.heap.size W1 wr) (fun i _=>m-(intOf i).toNat);case atStart=>exact⟨0,rs,rfl,Zq _,HM.symm,U G0,by rw[iw];exact U O0,U E0⟩
 case round=>
  obtain⟨k,o,rfl,hk,K,d,n,s⟩:=hrel;have a1:=V d;have o0:=V n;have u:=V s;have K0:=V K;by_cases l1:k<m
  ·obtain⟨r,hr⟩:∃r,o[k]? = O r:=⟨_,Za zo⟩;have T0:k<H.length:=by have:=U R;have:=U HM;omega
   have L:H[k]? = O r.blo:=by rw[<-fO (fun b=>(b.1,xA b.2)) H k T0,<-n,Zn,hr];rfl
   have M:=Zd L;obtain⟨e1,e2,D,p⟩:=d.cells hr;have j0:=yB d.1;have y0:=d.lt.1;have b1:(k:Int)<m:=zo;obtain⟨rf,ra,rc,Q⟩:=r;simp only[LBl.blo]at e1 e2 D p L M;have o1:Q.length<=5000:=U s0 _ M;have v:Hid (Calls prog 154 #[A (O ⟨fb,0,X⟩),S ra Q.length rc] wr (aB wr (xA Q))):=Dy fb tb rb ra rc Q wr (I0.z s) D zo p (fun x hx=>U c0 x (U T _ M x hx));have M0:=V (iu (fun b=>(b.1,xA b.2)) L)
   have t0:=V (fun(w':YW) (a:YA) (c:Nat) (B:Below wr.heap.size wr w') (ho:yD wr.heap.size w' (S a (xA Q).length c) (xA Q))=>(d.z B).set hr a c (xA Q) ho.isIn.1 ho.cap (fun g off e=>by
     subst e
     have:=(zC ho (k:=g) rfl).2
     omega))
   have d1:=V hr
   have J0:Hid (∀w',Below wr.heap.size wr w'->w'.cell? ⟨lg,k*2+1,X⟩=O (S ra Q.length rc)/\(∀j,w'.frozen? ⟨lg,j,X⟩=Z)/\lg<w'.heap.size):=fun w' B=>by
     have h1:=d.z B
     exact⟨(h1.cells hr).2.1,yB h1.1,h1.lt.1⟩
   clear d n s L M D p hr K;go_wp2_with fail;refine v.m ?_;rintro e w3 ⟨a3,c3,rfl,B0,h0⟩;obtain⟨k1,k2,k3⟩:=U J0 w3 h0;have N0:=V B0;have l0:=V h0;clear B0 h0 v e1 e2 j0 y0;generalize X0:xA Q=Z0 at *;go_wp2;go_roundw;case rel=>refine⟨k+1,o.set k (rf,a3,c3,Z0),by go_num,zo,by rw[length_set];exact U K0,U t0 w3 a3 c3 (U l0) (U N0),?_,(u.trans (l0.m u.size)).setCell (U L0) _⟩;rw[map_set,U o0,U M0];rw[<-X0];rfl
   case measure=>exact zv
  ·have U0:k=m:=zo;subst U0;have A0:k=H.length:=by rw[U HM];exact U R
   have F:o.map LBl.blo=H.map (fun b=>(b.1,xA b.2)):=by rw[n,A0,mh]
   have f0:=Blk.z (U HP) s HP.lt;have v0:=Blk.z (U HR) s HR.lt
   have d0:=V (iq W1.heap.size G c l.length en ce lg lc o (H.map (fun b=>(b.1,xA b.2))) wr d F (fun b B=>by
     obtain⟨b',g0,rfl⟩:=mem_map.1 B
     have e:((fun b=>(b.1,xA b.2)) b').1=b'.1:=by first|rfl|(unfold ym;split<;>rfl)|(unfold xB;split<;>rfl)
     rw[e]
     exact U n0 b' g0) (U p0) W zo (by
     have:=dC (fun b=>(b.1,xA b.2)) (fun b=>ij b.2 b.2.length) H
     have h2:=U H0
     omega) zo)
   rw[K]at d0;have S0:=f0.u;have V0:=f0.lt;have e0:=V v0;clear d n F f0 v0 K A0 s;generalize hq:yw l.length en (H.map (fun b=>(b.1,xA b.2)))=q at *;go_wp2_with fail;refine d0.m ?_;rintro e w4 ⟨a4,c4,rfl,C0,i0⟩;have z:=Blk.z (U e0) i0 e0.lt;have g1:=z.u;have i1:=z.H;have j1:=z.lt;have r0:=V z;have q0:=V C0;have F0:=V i0;clear C0 i0 d0 z e0 S0 V0;go_wp2;refine bodyPost_ret (qD (P:=prog) rfl _ _ (w.heap.size+1) 73 _ (0,0) _ rfl (xE (U r0) rfl) underlying73 rfl yT) rfl ?_;have p1:=U u0;have Y0:w.heap.size<=wr.heap.size:=by have:=u.size;omega
   have hn:(Value.slice a4 q.1.length c4).ownBlock≠O (w.heap.size+1):=fun e=>zR (U r0) (U q0) zd e;have Q0:Below w.heap.size w w4:=P0.trans ((u.trans (F0.m u.size)).m zo);try rw[hq]
   refine⟨a4,c4,rfl,?_,((Q0.setCell zs _).setCell zs _).setCell zs _⟩;exact zV (zA (zA (zA (U q0) hn _) hn _) hn _) Y0
theorem Pp:(f153.name == "runtime.NumGoroutine")=Z:=zr
theorem OT:f153.body.isNone=Z:=zr
theorem OA{α:Type}{l:List α}{k:Nat}{x:α}(h:l[k]? = O x):l.set k x=l:=by apply ext_getElem?;intro i;by_cases e:k=i;subst e;rw[getElem?_set_self (Zb.1 h).1,h];rw[getElem?_set_ne e]
theorem uv(g cap en:Nat)(ce:Int)(l:YL)(w:YW)(ho:yD 0 w (S (O ⟨g,0,X⟩) l.length cap) l)(hp:yl (l,en)):Calls prog 83 #[Ag #[S (O ⟨g,0,X⟩) l.length cap,I J en,I J ce]] w (kF w (bN (l,en)) ce):=by
 have o0:0<l.length:=by have:=hp.entry;simp only at this;omega
 have h5:l.length<=5000:=hp.R;have x0:=yG w (C #[S (O ⟨g,0,X⟩) l.length cap,I J en,I J ce] 73) (C #[S X 0 0,I J 0,I J 0] 73);have hP:Blk ((w.alloc (C #[S (O ⟨g,0,X⟩) l.length cap,I J en,I J ce] 73)).alloc (C #[S X 0 0,I J 0,I J 0] 73)) w.heap.size #[S (O ⟨g,0,X⟩) l.length cap,I J en,I J ce] 73:=(Blk.new w _ _).alloc _;have hR:=vD w (C #[S (O ⟨g,0,X⟩) l.length cap,I J en,I J ce] 73) #[S X 0 0,I J 0,I J 0] 73;have s1:((w.alloc (C #[S (O ⟨g,0,X⟩) l.length cap,I J en,I J ce] 73)).alloc (C #[S X 0 0,I J 0,I J 0] 73)).heap.size=w.heap.size+2:=zs;have K0:=V (nO g cap l _ ((zz.aB x0).row ho) o0 zo);have I0:=V x0;have HP:=V hP;have HR:=V hR;have H1:(l.length:Int)<=5000:=zo;have G1:(1:Int)<=l.length:=zo;have f1:Hid (∀k,bQ l.length (vg l k)):=fun k=>Rp hp.N k;clear x0 hP hR ho hp;go_enter func83,ntmps83;go_upto_region 1 with fail;generalize (w.alloc (C #[S (O ⟨g,0,X⟩) l.length cap,I J en,I J ce] 73)).alloc (C #[S X 0 0,I J 0,I J 0] 73)=W at *;have B0:=HP.u;have V0:=HP.lt;go_wp2_with fail;refine K0.m ?_;rintro e w1 ⟨v,rfl,hv,f0⟩;obtain⟨f,b,rfl,F1,T0⟩:=hv.form o0;have F:=HP.z f0 HP.lt;have Y0:=HR.z f0 HR.lt;have O0:=F.u;have R0:=F.H;have W0:=F.lt;have G0:=F.set 0 (S (O ⟨f,0,X⟩) l.length b);simp only[Zt,set_cons_zero]at G0;have Z0:=Y0.far (a:=⟨w.heap.size,0,X⟩) zs (S (O ⟨f,0,X⟩) l.length b);have a1:=zA hv (fun e=>zR F hv zd e) (S (O ⟨f,0,X⟩) l.length b) (a:=⟨w.heap.size,0,X⟩);have l0:Below w.heap.size w (w1.setCell ⟨w.heap.size,0,X⟩ (S (O ⟨f,0,X⟩) l.length b)):=(I0.trans (f0.m I0.size)).setCell (Zc _) _;have s0:=V G0;have h1:=V Z0;have i1:=V a1;have J0:=V l0;have HW:Hid (W.heap.size=w.heap.size+2):=s1;clear hv f0 F Y0 G0 Z0 a1 l0 K0 B0;go_upto_region 2 with fail;generalize w1.setCell ⟨w.heap.size,0,X⟩ (S (O ⟨f,0,X⟩) l.length b)=w2 at *;have j1:=s0.u;have p1:=s0.lt;clear O0 R0 W0 T0;go_wp2;go_loopw [13] (fun i wr=>∃k:Nat,i=I J k/\k<=l.length/\wr.ownsRow W.heap.size 65 2 (S (O ⟨f,0,X⟩) l.length b) l.length (zc (vg l k))/\Blk wr w.heap.size #[S (O ⟨f,0,X⟩) l.length b,I J en,I J ce] 73/\Blk wr (w.heap.size+1) #[S X 0 0,I J 0,I J 0] 73/\Below w.heap.size w wr) (fun i _=>l.length-(intOf i).toNat);case atStart=>exact⟨0,rfl,Zq _,U i1,U s0,U h1,U J0⟩
 case round=>
  clear j1 p1;obtain⟨k,rfl,hk,q,a0,G,A0⟩:=hrel;have o:=V q;have e0:=V a0;have E:=V G;have d0:=V A0;have B0:=a0.u;have V0:=a0.lt;by_cases J1:k<l.length
  ·have D0:(vg l k).length=l.length:=gU l k;have z:Hid (vg l (k+1)=jg (vg l k) k):=rfl;have T:=U f1 k;generalize vg l k=m at *;obtain⟨x,hx⟩:∃x,m[k]? = O x:=⟨_,Za zo⟩;have c1:=(zD q (k*2) zo).trans (zL m k x hx).1;have c2:=(zD q (k*2+1) zo).trans (zL m k x hx).2;have S0:=yB q;have k1:=(zC q (k:=f) rfl).1;have v1:(k:Int)<l.length:=zo;have HN:=V (fun W=>cN x.1 W);have HX:=V hx;clear q a0 G A0;go_wp2_with fail;refine(U HN _).m ?_;rintro e w3 ⟨rfl,b1⟩;obtain rfl:=b1.symm;clear b1 HN;by_cases h0:zT x.1=Y
   ·rw[h0];have u1:=T x (Zd HX) h0;have C0:∀y∈m,y.1=1->0<=y.2/\y.2<m.length:=fun y hy e=>by have:=T y hy (by rw[e];rfl);omega
    have U0:=tW C0 m.length x.2 zo;obtain⟨j,hG⟩:∃j:Nat,jd m m.length x.2=j:=⟨(jd m m.length x.2).toNat,zo⟩;rw[hG]at U0
    have M0:Hid (∀n,Calls prog 153 #[S (O ⟨f,0,X⟩) l.length b,I J x.2] (wr.drewN n) fun e w'=>e=Rt (I J j)/\w'=wr.drewN n):=fun n=>by
      have l1:InL wr (O ⟨f,0,X⟩) m:=(yD.isIn (B:=W.heap.size) (l:=m) (n:=l.length) (c:=b) (by unfold yD;rw[D0];exact U o)).1
      have:=Qp (O ⟨f,0,X⟩) b m x.2 (wr.drewN n) l1 zo C0 zo
      rw[hG,D0]at this
      exact this
    have Q:Hid (jg m k=if x.1=1/\(((m.set k (x.1,(j:Int))).getD j (0,0)).1=4\/((m.set k (x.1,(j:Int))).getD j (0,0)).1=5)then(m.set k (x.1,(j:Int))).set k ((m.set k (x.1,(j:Int))).getD j (0,0))else m.set k (x.1,(j:Int))):=by show jg m k=_;unfold jg;rw[U HX];simp only[h0,if_true,hG,Zr]
    have u:=qI o (k*2+1) (I J j);have K:(zc m).set (k*2+1) (I J j)=zc (m.set k (x.1,(j:Int))):=by rw[<-fc m k x (U HX) x.1 j,OA (zL m k x (U HX)).1]
    rw[K]at u;have M:=V u;clear u K C0 u1 T;go_wp2;go_cut []from 14 to 62 (fun wc=>∃n,wc=(wr.setCell ⟨f,k*2+1,X⟩ (I J j)).drewN n)
    case first=>go_region_law (refine zN rfl 153 #[.tmp 28,.tmp 32] #[33,2] rfl func153 Pp OT #[S (O ⟨f,0,X⟩) l.length b,I J x.2] zl (U M0 _) ?_;rintro e wu ⟨rfl,t1⟩;subst t1;refine⟨_,rfl,?_⟩);all_goals go_wp2;go_meet;exact⟨_,rfl⟩
    case rest=>
     obtain⟨n1,c0⟩:=hcut;have R:w.heap.size<=f:=by have:=(zC o (k:=f) rfl).2;have:=U HW;omega
     have E0:w.heap.size≠f:=fun e=>zR e0 o zd (by rw[e];rfl);have F0:w.heap.size+1≠f:=fun e=>zR E o zd (by rw[e];rfl);have d:wc.ownsRow W.heap.size 65 2 (S (O ⟨f,0,X⟩) l.length b) l.length (zc (m.set k (x.1,(j:Int)))):=by rw[c0];exact U M
     have t:Blk wc w.heap.size #[S (O ⟨f,0,X⟩) l.length b,I J en,I J ce] 73:=by rw[c0];exact(e0.far (a:=⟨f,k*2+1,X⟩) E0 _).drewN n1
     have b0:Blk wc (w.heap.size+1) #[S X 0 0,I J 0,I J 0] 73:=by rw[c0];exact(E.far (a:=⟨f,k*2+1,X⟩) F0 _).drewN n1
     have D:Below w.heap.size w wc:=by rw[c0];exact zS (d0.setCell R _) n1
     have y1:(m.set k (x.1,(j:Int))).length=l.length:=by rw[length_set,D0]
     obtain⟨e,he⟩:∃e,(m.set k (x.1,(j:Int)))[j]? = O e:=⟨_,Za zo⟩;have P0:(m.set k (x.1,(j:Int))).getD j (0,0)=e:=by rw[Zj,he];rfl
     have g0:(m.set k (x.1,(j:Int)))[k]? = O (x.1,(j:Int)):=getElem?_set_self zo;have r:Hid (jg m k=if x.1=1/\(e.1=4\/e.1=5)then(m.set k (x.1,(j:Int))).set k e else m.set k (x.1,(j:Int))):=by show _=_;rw[U Q,P0]
     generalize m.set k (x.1,(j:Int))=L at *;obtain⟨w5,d1⟩:∃w5:YW,w5=wc:=⟨_,rfl⟩;rw[<-d1]at d t b0 D ⊢;have q1:=(zD d (j*2) zo).trans (zL L j e he).1;have q2:=(zD d (j*2+1) zo).trans (zL L j e he).2;have q3:=(zD d (k*2) zo).trans (zL L k _ g0).1;have q4:=(zD d (k*2+1) zo).trans (zL L k _ g0).2;have q5:=(zC d (k:=f) rfl).1;have q6:=t.u;have q7:=t.lt;have D1:(j:Int)<l.length:=zo;simp only at q3 q4;have N0:=zB w5 (C #[I J e.1,I J e.2] 65);have N:=V (zE d (C #[I J e.1,I J e.2] 65));have j0:=V (t.alloc (C #[I J e.1,I J e.2] 65));have k0:=V (b0.alloc (C #[I J e.1,I J e.2] 65));have i0:=V (D.trans (N0.m D.size));have L0:=V (Blk.new w5 #[I J e.1,I J e.2] 65);have r0:=V g0;clear d1 c0 B0 V0 c1 c2 S0 k1 d t b0 D he P0 g0 N0 o M e0 E d0 Q HX M0;go_wp2;go_cut [5]from 14 to 62 (fun s5 wd=>∃n,s5=A (O ⟨w5.heap.size,0,X⟩)/\wd=(w5.alloc (C #[I J e.1,I J e.2] 65)).drewN n)
     case first=>go_region;all_goals go_wp2;go_meet;exact⟨_,rfl,rfl⟩
     case rest=>
      obtain⟨n2,rfl,H⟩:=hcut;have p:wc.ownsRow W.heap.size 65 2 (S (O ⟨f,0,X⟩) l.length b) l.length (zc L):=by rw[H];exact U N
      have n0:Blk wc w.heap.size #[S (O ⟨f,0,X⟩) l.length b,I J en,I J ce] 73:=by rw[H];exact j0.drewN n2
      have p0:Blk wc (w.heap.size+1) #[S X 0 0,I J 0,I J 0] 73:=by rw[H];exact k0.drewN n2
      have m0:Below w.heap.size w wc:=by rw[H];exact zS i0 n2
      have y0:Blk wc w5.heap.size #[I J e.1,I J e.2] 65:=by rw[H];exact L0.drewN n2
      have r1:=y0.u;have r2:=y0.lt;have r3:=(zD p (k*2) zo).trans (zL L k _ r0).1;have r4:=(zD p (k*2+1) zo).trans (zL L k _ r0).2;have r5:=yB p;have r6:=(zC p (k:=f) rfl).1;simp only at r3 r4;have u0:=V p;have t0:=V n0;have q0:=V p0;have v0:=V m0;obtain⟨K,e2⟩:=e;obtain⟨x1,x2⟩:=x;simp only at *;clear H p n0 p0 m0 y0 q1 q2 q3 q4 q5 q6 q7 N j0 k0 i0 L0 hG;by_cases H0:x1=1
      ·subst H0;by_cases w0:K=4\/K=5
       ·have Q0:Hid (wc.setCell ⟨f,k*2,X⟩ (I J K) |>.setCell ⟨f,k*2+1,X⟩ (I J e2) |>.ownsRow W.heap.size 65 2 (S (O ⟨f,0,X⟩) l.length b) l.length (zc (L.set k (K,e2)))):=by have:=qI (qI u0 (k*2) (I J K)) (k*2+1) (I J e2);rw[fc L k _ (U r0) K e2]at this;exact this
        have s:Hid (vg l (k+1)=L.set k (K,e2)):=by show _=_;rw[U z,U r,if_pos ⟨rfl,w0⟩]
        rcases w0 with rfl|rfl;all_goals
         go_wp2;go_roundw;case rel=>exact⟨k+1,by go_num,zo,by rw[U s];exact U Q0,(t0.far (a:=⟨f,k*2,X⟩) E0 _).far (a:=⟨f,k*2+1,X⟩) E0 _,(q0.far (a:=⟨f,k*2,X⟩) F0 _).far (a:=⟨f,k*2+1,X⟩) F0 _,(v0.setCell R _).setCell R _⟩
         case measure=>exact zv
       ·have B1:(K==4)=Z:=zp;have C1:(K==5)=Z:=zp;have s:Hid (vg l (k+1)=L):=by show _=_;rw[U z,U r,if_neg (fun h=>w0 h.2)]
        go_wp2;go_roundw;case rel=>exact⟨k+1,by go_num,zo,by rw[U s];exact U u0,U t0,U q0,U v0⟩
        case measure=>exact zv
      ·have A1:(x1==1)=Z:=by simpa using H0
       have s:Hid (vg l (k+1)=L):=by show _=_;rw[U z,U r,if_neg (fun h=>H0 h.1)]
       go_wp2;go_roundw;case rel=>exact⟨k+1,by go_num,zo,by rw[U s];exact U u0,U t0,U q0,U v0⟩
       case measure=>exact zv
   ·have X0:zT x.1=Z:=by simpa using h0
    rw[X0];go_wp2;go_roundw;case rel=>refine⟨k+1,by go_num,zo,?_,U e0,U E,U d0⟩;rw[U z];unfold jg;rw[U HX];simp only[X0];exact U o
    case measure=>exact zv
  ·have o1:k=l.length:=zo;subst o1;have E1:=G.u;have S0:=G.H;have I1:=G.lt;have K1:w.heap.size≠w.heap.size+1:=zo;clear q a0 G A0;go_wp2;refine bodyPost_ret (qD (P:=prog) rfl _ _ (w.heap.size+1) 73 _ (0,0) _ rfl (xE E rfl) underlying73 rfl yT) rfl ?_;have hn:(Value.slice (O ⟨f,0,X⟩) l.length b).ownBlock≠O (w.heap.size+1):=fun e=>zR E o zd e;have el:(bN (l,en)).1.length=l.length:=gU l l.length;refine⟨O ⟨f,0,X⟩,b,by rw[el];rfl,?_,((d0.setCell zs _).setCell zs _).setCell zs _⟩;unfold yD;rw[el];exact zV (zA (zA (zA o hn _) hn _) hn _) (by have:=U HW;omega)
theorem FZ{α:Type}{l:List α}{k:Nat}{x:α}(h:l[k]? = O x):l.set k x=l:=by apply ext_getElem?;intro i;by_cases e:k=i;subst e;rw[getElem?_set_self (Zb.1 h).1,h];rw[getElem?_set_ne e]
theorem ph (ao:YA) (c en:Nat) (ce:Int) (l:YL) (w:YW) (hin:InL w ao l) (hp:yl (l,en)) : Calls prog 82 #[Ag #[S ao l.length c,I J en,I J ce]] w (kF w (yw l.length en ((zt l en).map (ym (jm l en)))) ce):=by
 have hw2:=yG w (C #[S ao l.length c,I J en,I J ce] 73) (C #[S X 0 0,I J 0,I J 0] 73);have hP:Blk ((w.alloc (C #[S ao l.length c,I J en,I J ce] 73)).alloc (C #[S X 0 0,I J 0,I J 0] 73)) w.heap.size #[S ao l.length c,I J en,I J ce] 73:=(Blk.new w _ _).alloc _;have hR:=vD w (C #[S ao l.length c,I J en,I J ce] 73) #[S X 0 0,I J 0,I J 0] 73;have hsz2:((w.alloc (C #[S ao l.length c,I J en,I J ce] 73)).alloc (C #[S X 0 0,I J 0,I J 0] 73)).heap.size=w.heap.size+2:=zs;have hent:en<l.length:=hp.entry;have hsm:l.length≤5000:=hp.R;have hfine:=wR (l:=l) (en:=en);have hflat:=hfine.flat;rw[take_length]at hflat;have HBO:=V (eV ao c en ce l _ (hin.z hw2) zo hent hp.N);have HMEM:Hid (∀ b∈zt l en,∀ x∈b.2,x∈l):=fun b hb x hx=>by rw[← hflat];exact mem_flatMap.2 ⟨b,hb,hx⟩
 have HROW:Hid (∀ b∈zt l en,b.2.length≤5000):=fun b hb=>Nat.le_trans (hfine.row hb) hsm;have HLOW:=V hfine.low;have hbl:(zt l en).length≤l.length:=hfine.len;have HP:=V hP;have HR:=V hR;have HW2:=V hw2;have HPR:=V hp;have HSZ2:=V hsz2
 have HNAM:Hid (∀ rd,∀ b∈(zt l en).map (ym rd),∀ x∈b.2,zT x.1=Y→0≤x.2∧x.2<l.length):=fun rd b hb x hx hn=>by
   obtain⟨b',hb',rfl⟩:=mem_map.1 hb
   exact hp.N x (U HMEM b' hb' x (gC hx).2) hn
 have HFL:Hid (((zt l en).flatMap (·.2)).length≤5000):=by rw[hflat];exact hsm
 have HRI:=V (fun W hW=>DI ao c en ce l W (InL.z (hin.z hw2) hW) hp);generalize hbs:zt l en=bs at *;generalize hrd:jm l en=rd at *;have hrdl:rd.length=l.length:=by rw[← hrd];exact (dF (U HPR)).len
 clear hw2 hP hR hp hfine hflat hin hsz2 hbs hrd;go_enter func82,ntmps82;go_wp2_with fail;generalize ((w.alloc (C #[S ao l.length c,I J en,I J ce] 73)).alloc (C #[S X 0 0,I J 0,I J 0] 73))=W1 at *;refine HBO.m ?_;rintro e W2 ⟨lg,lc,rs,rfl,hbk,hrs,hb2⟩;have hlen:rs.length=bs.length:=by rw[← hrs,length_map]
 have hlgs:=hbk.lt;have HBK:=V hbk;have HRS:=V hrs;have HB2:=V hb2;have HLEN:=V hlen;obtain⟨m,hm⟩:∃ m,m=rs.length:=⟨_,rfl⟩;rw[← hm]at hlen ⊢;have HM:=V hm;have hm5:m≤5000:=zo;have hmI:(m:Int)≤5000:=zo;have HLG:Hid (W1.heap.size≤lg):=hlgs.2;have hPw:=Blk.z (U HP) (U HB2) HP.lt;have hcpw:=hPw.u;have hlpw:=hPw.lt;clear hbk hrs hb2 HBO hm hlen hlgs hPw;go_wp2_with fail;refine (U HRI W2 (U HB2)).m ?_;rintro e W3 ⟨gr,rfl,hor,hb3⟩;have HOR:=V hor;have HBK3:=V (HBK.z hb3);have HB23:Hid (Below W1.heap.size W1 W3):=HB2.trans (hb3.m HB2.size);have HGR:Hid (W2.heap.size≤gr):=hor.lt.2;have HLG3:Hid (lg<W2.heap.size):=HBK.lt.1;clear hor hb3 hcpw hlpw HRI;go_wp2;go_loopw [12] (fun i wr=>∃ (k:Nat) (rs':List LBl),i=I J k∧k≤m∧rs'.length=m∧jh W1.heap.size wr lg lc rs'∧rs'.map LBl.blo=vV (ym rd) bs k∧xm W2.heap.size wr gr rd∧Below W1.heap.size W1 wr) (fun i _=>m-(intOf i).toNat);case atStart=>exact⟨0,rs,rfl,Zq _,HM.symm,U HBK3,by rw[iw];exact U HRS,U HOR,U HB23⟩
 case round=>
  obtain⟨k,rs',rfl,hk,hl',hbk,hmap,hor,hbw⟩:=hrel;have HORR:=V hor;have HBK':=V hbk;have HMAP:=V hmap;have HBW:=V hbw;have HL':=V hl';by_cases hlt:k<m
  ·obtain⟨r,hr⟩:∃ r,rs'[k]? = O r:=⟨_,Za zo⟩;have hkb:k<bs.length:=by have:=U HLEN;have:=U HM;omega
   have hrb:bs[k]? = O r.blo:=by rw[← fO (ym rd) bs k hkb,← hmap,Zn,hr];rfl
   have hrm:=Zd hrb;obtain⟨e1,e2,hinr,hcapr⟩:=hbk.cells hr;have hfree:=yB hbk.1;have hlgl:=hbk.lt.1;have hltI:(k:Int)<m:=zo;obtain⟨rf,ra,rc,rl⟩:=r;simp only[LBl.blo]at e1 e2 hinr hcapr hrb hrm;have hrl:rl.length≤5000:=U HROW _ hrm;have hrn:rf<l.length:=U HLOW _ hrm;obtain⟨b,hb⟩:∃ b,rd[rf]? = O b:=⟨_,Za zo⟩;have hcb:=hor.u hb;have hlgr:=hor.lt.1;have hrnI:(rf:Int)<l.length:=zo;have hgd:rd.getD rf Z=b:=by rw[Zj,hb];rfl
   have HNX:=V (iu (ym rd) hrb);have HSET:=V (hbk.set hr X 0 [] (Zg rfl) (Zc _) (fun g off e=>by cases e));have HAT:Hid ((vV (ym rd) bs k)[k]? = O (rf,rl)):=by show _=_;rw[fO _ _ _ hkb];exact hrb
   have HFAR:Hid (xm W2.heap.size (wr.setCell ⟨lg,k * 2+1,X⟩ (S X 0 0)) gr rd):=zA hor (a:=⟨lg,k * 2+1,X⟩) (by
     have:=U HGR
     have:=U HLG3
     simp[Value.ownBlock]
     omega) _
   have HGD:=V hgd;clear hbk hmap hbw hrb hrm hinr hcapr hr hl' hor hb hgd;cases b with
   |true=>
    go_wp2;go_roundw;case rel=>
     refine⟨k+1,rs',by go_num,zo,U HL',U HBK',?_,U HORR,U HBW⟩;have e:ym rd (rf,rl)=(rf,rl):=by unfold ym;rw[if_pos (U HGD)]
     rw[U HNX,e,U HMAP];exact (FZ (U HAT)).symm
    case measure=>exact zv
   |false=>
    go_wp2;go_roundw;case rel=>
     refine⟨k+1,rs'.set k (rf,X,0,[]),by go_num,zo,by rw[length_set];exact U HL',U HSET,?_,U HFAR,HBW.setCell (U HLG) _⟩;have e:ym rd (rf,rl)=(rf,[]):=by unfold ym;rw[if_neg (by simp only;rw[U HGD];simp)]
     rw[map_set,U HMAP,U HNX,e];rfl
    case measure=>exact zv
  ·have hkk:k=m:=zo;subst hkk;have hmb:k=bs.length:=by rw[U HM];exact U HLEN
   have hmap2:rs'.map LBl.blo=bs.map (ym rd):=by rw[hmap,hmb,mh]
   have hPw:=Blk.z (U HP) hbw HP.lt;have hRw:=Blk.z (U HR) hbw HR.lt
   have HJO:=V (iq W1.heap.size ao c l.length en ce lg lc rs' (bs.map (ym rd)) wr hbk hmap2 (fun b hb=>by
     obtain⟨b',hb',rfl⟩:=mem_map.1 hb
     have e:((ym rd) b').1=b'.1:=by first|rfl|(unfold ym;split<;>rfl)|(unfold xB;split<;>rfl)
     rw[e]
     exact U HLOW b' hb') (U HNAM rd) hent zo (by
     have:=dC (ym rd) (fun b=>by unfold ym;split<;>simp) bs
     have h2:=U HFL
     omega) zo)
   rw[hl']at HJO;have hcp:=hPw.u;have hlp:=hPw.lt;have HRW:=V hRw;clear hbk hmap hmap2 hPw hRw hl' hmb hbw hor;generalize hq:yw l.length en (bs.map (ym rd))=q at *;go_wp2_with fail;refine HJO.m ?_;rintro e w4 ⟨a4,c4,rfl,ho4,hb4⟩;have hR4:=Blk.z (U HRW) hb4 HRW.lt;have hcr:=hR4.u;have hfr:=hR4.H;have hlr:=hR4.lt;have HR4:=V hR4;have HO4:=V ho4;have HB4:=V hb4;clear ho4 hb4 HJO hR4 HRW hcp hlp;go_wp2;refine bodyPost_ret (qD (P:=prog) rfl _ _ (w.heap.size+1) 73 _ (0,0) _ rfl (xE (U HR4) rfl) underlying73 rfl yT) rfl ?_;have hsz:=U HSZ2;have hww:w.heap.size≤wr.heap.size:=by have:=HBW.size;omega
   have hn:(Value.slice a4 q.1.length c4).ownBlock≠O (w.heap.size+1):=fun e=>zR (U HR4) (U HO4) zd e;have hb5:Below w.heap.size w w4:=HW2.trans ((HBW.trans (HB4.m HBW.size)).m zo);try rw[hq]
   refine⟨a4,c4,rfl,?_,((hb5.setCell zs _).setCell zs _).setCell zs _⟩;exact zV (zA (zA (zA (U HO4) hn _) hn _) hn _) hww
theorem OL(G:YA)(c en:Nat)(ce:Int)(l:YL)(w:YW)(w0:InL w G l)(hp:yl (l,en)):Calls prog 55 #[Ag #[S G l.length c,I J en,I J ce]] w (kF w (yw l.length en ((zt l en).map (fun b=>(b.1,xf b.2)))) ce):=by
 have j0:=yG w (C #[S G l.length c,I J en,I J ce] 73) (C #[S X 0 0,I J 0,I J 0] 73);have hP:Blk ((w.alloc (C #[S G l.length c,I J en,I J ce] 73)).alloc (C #[S X 0 0,I J 0,I J 0] 73)) w.heap.size #[S G l.length c,I J en,I J ce] 73:=(Blk.new w _ _).alloc _;have hR:=vD w (C #[S G l.length c,I J en,I J ce] 73) #[S X 0 0,I J 0,I J 0] 73;have a0:((w.alloc (C #[S G l.length c,I J en,I J ce] 73)).alloc (C #[S X 0 0,I J 0,I J 0] 73)).heap.size=w.heap.size+2:=zs;have T:en<l.length:=hp.entry;have C0:l.length<=5000:=hp.R;have f:=wR (l:=l) (en:=en);have n:=f.flat;rw[take_length]at n;have l0:=V (eV G c en ce l _ (w0.z j0) zo T hp.N);have R:Hid (∀b∈zt l en,∀x∈b.2,x∈l):=fun b z x hx=>by rw[<-n];exact mem_flatMap.2 ⟨b,z,hx⟩
 have r0:Hid (∀b∈zt l en,b.2.length<=5000):=fun b z=>Nat.le_trans (f.row z) C0;have m0:=V f.low;have b1:(zt l en).length<=l.length:=f.len;have HP:=V hP;have HR:=V hR;have N0:=V j0;have Z0:=V hp;have t0:=V a0
 have o0:Hid (∀b∈(zt l en).map (fun b=>(b.1,xf b.2)),∀x∈b.2,zT x.1=Y->0<=x.2/\x.2<l.length):=fun b z x hx hn=>by
   obtain⟨b',K,rfl⟩:=mem_map.1 z
   rcases ow b'.2 (fun y hy=>hp.K y (U R b' K y hy)) _ _ x hx with h|h
   · exact hp.N x (U R b' K x h) hn
   · rw[cO (Zf zo)]at hn
     cases hn
 have G0:Hid (((zt l en).flatMap (·.2)).length<=5000):=by rw[n];exact C0
 generalize P0:zt l en=H at *;clear j0 hP hR hp f n w0 a0 P0;go_enter func55,ntmps55;go_wp2_with fail;generalize ((w.alloc (C #[S G l.length c,I J en,I J ce] 73)).alloc (C #[S X 0 0,I J 0,I J 0] 73))=W1 at *;refine l0.m ?_;rintro e W2 ⟨lg,lc,rs,rfl,d,i0,v0⟩;have E:rs.length=H.length:=by rw[<-i0,length_map]
 have W:=d.lt;have F0:=V d;have M0:=V i0;have D0:=V v0;have Q:=V E;obtain⟨m,hm⟩:∃m,m=rs.length:=⟨_,rfl⟩;rw[<-hm]at E ⊢;have HM:=V hm;have i1:m<=5000:=zo;have j1:(m:Int)<=5000:=zo;have J0:Hid (W1.heap.size<=lg):=W.2;clear d i0 v0 l0 hm E W;go_wp2;go_loopw [9] (fun i wr=>∃(k:Nat)(p:List LBl),i=I J k/\k<=m/\p.length=m/\jh W1.heap.size wr lg lc p/\p.map LBl.blo=vV (fun b=>(b.1,xf b.2)) H k/\Below W1.heap.size W1 wr) (fun i _=>m-(intOf i).toNat);case atStart=>exact⟨0,rs,rfl,Zq _,HM.symm,U F0,by rw[iw];exact U M0,U D0⟩
 case round=>
  obtain⟨k,p,rfl,hk,L,d,o,B⟩:=hrel;have X0:=V d;have n0:=V o;have t:=V B;have I0:=V L;by_cases g1:k<m
  ·obtain⟨r,hr⟩:∃r,p[k]? = O r:=⟨_,Za zo⟩;have R0:k<H.length:=by have:=U Q;have:=U HM;omega
   have M:H[k]? = O r.blo:=by rw[<-fO (fun b=>(b.1,xf b.2)) H k R0,<-o,Zn,hr];rfl
   have h0:=Zd M;obtain⟨e1,e2,D,s⟩:=d.cells hr;have g0:=yB d.1;have x0:=d.lt.1;have Y0:(k:Int)<m:=zo;obtain⟨rf,ra,rc,N⟩:=r;simp only[LBl.blo]at e1 e2 D s M h0;have l1:N.length<=5000:=U r0 _ h0;have u:Hid (Calls prog 86 #[S ra N.length rc] wr (aB wr (xf N))):=Kv ra rc N wr D zo s;have K0:=V (iu (fun b=>(b.1,xf b.2)) M)
   have s0:=V (fun(w':YW) (a:YA) (c:Nat) (z:Below wr.heap.size wr w') (ho:yD wr.heap.size w' (S a (xf N).length c) (xf N))=>(d.z z).set hr a c (xf N) ho.isIn.1 ho.cap (fun g off e=>by
     subst e
     have:=(zC ho (k:=g) rfl).2
     omega))
   have a1:=V hr
   have H0:Hid (∀w',Below wr.heap.size wr w'->w'.cell? ⟨lg,k*2+1,X⟩=O (S ra N.length rc)/\(∀j,w'.frozen? ⟨lg,j,X⟩=Z)/\lg<w'.heap.size):=fun w' z=>by
     have h1:=d.z z
     exact⟨(h1.cells hr).2.1,yB h1.1,h1.lt.1⟩
   clear d o B M h0 D s hr L;go_wp2_with fail;refine u.m ?_;rintro e w3 ⟨a3,c3,rfl,A0,e0⟩;obtain⟨k1,k2,k3⟩:=U H0 w3 e0;have L0:=V A0;have k0:=V e0;clear A0 e0 u e1 e2 g0 x0;generalize U0:xf N=W0 at *;go_wp2;go_roundw;case rel=>refine⟨k+1,p.set k (rf,a3,c3,W0),by go_num,zo,by rw[length_set];exact U I0,U s0 w3 a3 c3 (U k0) (U L0),?_,(t.trans (k0.m t.size)).setCell (U J0) _⟩;rw[map_set,U n0,U K0];rw[<-U0];rfl
   case measure=>exact zv
  ·have S0:k=m:=zo;subst S0;have y0:k=H.length:=by rw[U HM];exact U Q
   have F:p.map LBl.blo=H.map (fun b=>(b.1,xf b.2)):=by rw[o,y0,mh]
   have d0:=Blk.z (U HP) B HP.lt;have u0:=Blk.z (U HR) B HR.lt
   have b0:=V (iq W1.heap.size G c l.length en ce lg lc p (H.map (fun b=>(b.1,xf b.2))) wr d F (fun b z=>by
     obtain⟨b',K,rfl⟩:=mem_map.1 z
     have e:((fun b=>(b.1,xf b.2)) b').1=b'.1:=by first|rfl|(unfold ym;split<;>rfl)|(unfold xB;split<;>rfl)
     rw[e]
     exact U m0 b' K) (U o0) T zo (by
     have:=dC (fun b=>(b.1,xf b.2)) (fun b=>Au _ _ _) H
     have h2:=U G0
     omega) zo)
   rw[L]at b0;have Q0:=d0.u;have T0:=d0.lt;have c0:=V u0;clear d o F d0 u0 L y0 B;generalize hq:yw l.length en (H.map (fun b=>(b.1,xf b.2)))=q at *;go_wp2_with fail;refine b0.m ?_;rintro e w4 ⟨a4,c4,rfl,B0,f0⟩;have v:=Blk.z (U c0) f0 c0.lt;have c1:=v.u;have d1:=v.H;have f1:=v.lt;have q0:=V v;have p0:=V B0;have E0:=V f0;clear B0 f0 b0 v c0 Q0 T0;go_wp2;refine bodyPost_ret (qD (P:=prog) rfl _ _ (w.heap.size+1) 73 _ (0,0) _ rfl (xE (U q0) rfl) underlying73 rfl yT) rfl ?_;have m1:=U t0;have V0:w.heap.size<=wr.heap.size:=by have:=t.size;omega
   have hn:(Value.slice a4 q.1.length c4).ownBlock≠O (w.heap.size+1):=fun e=>zR (U q0) (U p0) zd e;have O0:Below w.heap.size w w4:=N0.trans ((t.trans (E0.m t.size)).m zo);try rw[hq]
   refine⟨a4,c4,rfl,?_,((O0.setCell zs _).setCell zs _).setCell zs _⟩;exact zV (zA (zA (zA (U p0) hn _) hn _) hn _) V0
end Go.Proofs.YtmeiikjpaepogaaGreatDoor
