/- Own. -/
import Derived.Test.YtmeiikjpaepogaaGreatDoorD18
import Derived.Test.YtmeiikjpaepogaaGreatDoorD17
import Derived.Deep.CutRange
open Option renaming some->O,none->X
open Bool renaming true->Y,false->Z
open Go.Value renaming int->I,slice->S,pointer->A,bool->Bl,string->Sr,tuple->Tu,agg->Ag
open Go.Obj renaming cells->C
open Go.Ending renaming returned->Rt
open Go.IntKind renaming i64->J
set_option maxRecDepth 100000
set_option maxHeartbeats 8000000
namespace Go.Proofs.YtmeiikjpaepogaaGreatDoor
open Go Go.RowKit Go.Proofs.Tryz List
def opV(kind n:Int)(s:YB)(b0 b1 b2:Bool)(vl:Value)(en ce l1 l2 l3 l4 fu:Int):Value:=Ag #[I J kind,I J n,Sr s,Bl b0,Bl b1,Bl b2,vl,I J en,I J ce,I J l1,I J l2,I J l3,I J l4,I J fu]
def opC(kind n:Int)(s:YB)(b0 b1 b2:Bool)(vl:Value)(en ce l1 l2 l3 l4 fu:Int):Array Value:=#[I J kind,I J n,Sr s,Bl b0,Bl b1,Bl b2,vl,I J en,I J ce,I J l1,I J l2,I J l3,I J l4,I J fu]
theorem iy(s:YB)(b:s.size<=2000):yX (yh (zH s))/\(0<=((zH s).c0.length:Int)/\((zH s).c0.length:Int)<(yh (zH s)).length)/\(0<=(zH s).cells/\(zH s).cells<=1000):=by obtain⟨g,k,a,c⟩:=nQ s b;refine⟨Jq a c g,⟨zo,?_⟩,⟨?_,MR s b⟩⟩;simp[yh];omega;have:=a.lens;unfold lens at this;omega
theorem oZ:(f23.name == "runtime.NumGoroutine")=Z:=zr
theorem oX:f23.body.isNone=Z:=zr
theorem cZ:(f70.name == "runtime.NumGoroutine")=Z:=zr
theorem cW:f70.body.isNone=Z:=zr
theorem xe.far{w:YW}{b:Nat}{d a:Value}{ls lc:YI}(h:xe w b d a ls lc){x:Nat}(f:x<b)(i:Nat)(u:Value):xe (w.setCell ⟨x,i,X⟩ u) b d a ls lc:=⟨zA h.s (fun e=>by have:=(zC h.s e).2;simp at this;omega) u,zA h.c (fun e=>by have:=(zC h.c e).2;simp at this;omega) u,h.R⟩
theorem xe.K{w:YW}{b a:Nat}{f e:Value}{ls lc:YI}(h:xe w b f e ls lc)(d:a<=b):xe w a f e ls lc:=⟨zV h.s d,zV h.c d,h.R⟩
structure eS(w:YW)(b:Nat)(v:Value)(er:Int)(vS vC:Value)(out:YB)(st:Int)(ls lc:YI)(x:Nat):Prop where
 ptr:v=A (O ⟨x,0,X⟩)
 D:Blk w x #[I J er,vS,vC,Sr out,I J st] 44
 lists:xe w b vS vC ls lc
 K:b<=x
theorem eS.z{w w':YW}{b:Nat}{v:Value}{er:Int}{d c:Value}{out:YB}{st:Int}{ls lc:YI}{x:Nat}(h:eS w b v er d c out st ls lc x)(a:Below w.heap.size w w'):eS w' b v er d c out st ls lc x:=⟨h.ptr,h.D.z a h.D.lt,h.lists.z a,h.K⟩
theorem eF{W a:YW}{er:Int}{d c:Value}{out:YB}{st:Int}{ls lc:YI}(g:xe a W.drew.heap.size d c ls lc)(f:Below W.drew.heap.size W.drew a):eS (a.alloc (C #[I J er,d,c,Sr out,I J st] 44)) W.heap.size (A (O ⟨a.heap.size,0,X⟩)) er d c out st ls lc a.heap.size/\Below W.heap.size W (a.alloc (C #[I J er,d,c,Sr out,I J st] 44)):=by have e:Below W.heap.size W a:=((Ze W.heap.size W).drew).trans f;have b:Below a.heap.size a (a.alloc (C #[I J er,d,c,Sr out,I J st] 44)):=(Ze _ _).alloc (Zc _) _;exact⟨⟨rfl,Blk.new a _ _,g.z b,e.size⟩,e.trans (b.m e.size)⟩
theorem eG{W b:YW}{er:Int}{d c:Value}{out:YB}{st:Int}{ls lc:YI}(h:xe b (W.heap.size+1) d c ls lc)(f:Below (W.heap.size+1) (W.alloc (C #[I J 0,S X 0 0,S X 0 0,Sr ⟨#[]⟩,I J 0] 44)).drew b):eS (((((b.setCell ⟨W.heap.size,0,X⟩ (I J er)).setCell ⟨W.heap.size,1,X⟩ d).setCell ⟨W.heap.size,2,X⟩ c).setCell ⟨W.heap.size,3,X⟩ (Sr out)).setCell ⟨W.heap.size,4,X⟩ (I J st)) W.heap.size (A (O ⟨W.heap.size,0,X⟩)) er d c out st ls lc W.heap.size/\Below W.heap.size W (((((b.setCell ⟨W.heap.size,0,X⟩ (I J er)).setCell ⟨W.heap.size,1,X⟩ d).setCell ⟨W.heap.size,2,X⟩ c).setCell ⟨W.heap.size,3,X⟩ (Sr out)).setCell ⟨W.heap.size,4,X⟩ (I J st)):=by have g:=(Blk.new W #[I J 0,S X 0 0,S X 0 0,Sr ⟨#[]⟩,I J 0] 44).drew.z f zo;have e:Below W.heap.size W b:=(((Ze _ _).alloc (Zc _) _).drew).trans (f.m zo);have a:W.heap.size<W.heap.size+1:=zo;refine⟨⟨rfl,dk g rfl,(((((h.far a _ _).far a _ _).far a _ _).far a _ _).far a _ _).K zo,Zc _⟩,?_⟩;exact((((e.setCell (Zc _) _).setCell (Zc _) _).setCell (Zc _) _).setCell (Zc _) _).setCell (Zc _) _
def jv:List (ByteArray×Int×Int):=[(⟨#[43]⟩,0,9),(⟨#[45]⟩,0,10),(⟨#[42]⟩,0,11),(⟨#[47]⟩,0,12),(⟨#[109,111,100]⟩,0,13),(⟨#[97,110,100]⟩,0,14),(⟨#[111,114]⟩,0,15),(⟨#[120,111,114]⟩,0,16),(⟨#[105,110,118,101,114,116]⟩,0,17),(⟨#[110,101,103,97,116,101]⟩,0,18),(⟨#[61]⟩,0,19),(⟨#[60]⟩,0,20),(⟨#[100,117,112]⟩,0,21),(⟨#[100,114,111,112]⟩,0,22),(⟨#[115,119,97,112]⟩,0,23),(⟨#[111,118,101,114]⟩,0,24),(⟨#[114,111,116]⟩,0,25),(⟨#[62,114]⟩,0,26),(⟨#[114,62]⟩,0,27),(⟨#[114,64]⟩,0,28),(⟨#[33]⟩,0,29),(⟨#[64]⟩,0,30),(⟨#[101,109,105,116]⟩,0,31),(⟨#[46]⟩,0,32),(⟨#[105]⟩,0,8),(⟨#[58]⟩,1,0),(⟨#[118,97,114,105,97,98,108,101]⟩,2,0),(⟨#[99,111,110,115,116,97,110,116]⟩,3,0),(⟨#[114,101,99,117,114,115,101]⟩,4,0),(⟨#[105,102]⟩,5,0),(⟨#[98,101,103,105,110]⟩,6,0),(⟨#[100,111]⟩,7,0),(⟨#[59]⟩,8,0),(⟨#[116,104,101,110]⟩,8,0),(⟨#[101,108,115,101]⟩,8,0),(⟨#[117,110,116,105,108]⟩,8,0),(⟨#[119,104,105,108,101]⟩,8,0),(⟨#[114,101,112,101,97,116]⟩,8,0),(⟨#[108,111,111,112]⟩,8,0)]
def mS:Array Value:=(yz jv).toArray
theorem PD:mS.size=117:=zd
theorem aV:jv.length=39:=rfl
theorem Tq(k:Nat)(x:ByteArray×Int×Int)(h:jv[k]? = O x):mS.extract (k*3) (k*3+3)=#[Sr x.1,I J x.2.1,I J x.2.2]:=by
 have a:k<39:=by have:=(Zb.1 h).1;rw[aV]at this;exact this
 have b:jv[k]? = O jv[k]:=Za (by rw[aV];exact a);rw[b]at h;obtain rfl:=Zl h;match k,a with
 |0,_=>rfl
 |1,_=>rfl
 |2,_=>rfl
 |3,_=>rfl
 |4,_=>rfl
 |5,_=>rfl
 |6,_=>rfl
 |7,_=>rfl
 |8,_=>rfl
 |9,_=>rfl
 |10,_=>rfl
 |11,_=>rfl
 |12,_=>rfl
 |13,_=>rfl
 |14,_=>rfl
 |15,_=>rfl
 |16,_=>rfl
 |17,_=>rfl
 |18,_=>rfl
 |19,_=>rfl
 |20,_=>rfl
 |21,_=>rfl
 |22,_=>rfl
 |23,_=>rfl
 |24,_=>rfl
 |25,_=>rfl
 |26,_=>rfl
 |27,_=>rfl
 |28,_=>rfl
 |29,_=>rfl
 |30,_=>rfl
 |31,_=>rfl
 |32,_=>rfl
 |33,_=>rfl
 |34,_=>rfl
 |35,_=>rfl
 |36,_=>rfl
 |37,_=>rfl
 |38,_=>rfl
theorem dL:(prog.info? 146).map (fun i=>i.size)=O 3:=zr
theorem IZ:(prog.info? 194).map (fun i=>i.size)=O 117:=zr
theorem PG (k:Nat) (x:ByteArray×Int×Int) (h:jv[k]? = O x) (W:YW) : (Instr.index 194 (.agg mS) (I J (k:Int))).run prog W=.ok (Ag #[Sr x.1,I J x.2.1,I J x.2.2]) W:=by
 have hk:k<39:=by have:=(Zb.1 h).1;rw[aV]at this;exact this
 have hx:=Tq k x h;cases hq:prog.info? 146 with
 |none=>have:=dL;rw[hq]at this;cases this
 |some i=>
  have hs:i.size=3:=by have:=dL;rw[hq]at this;simpa using this
  have hc:(0:Int)≤(k:Int)∧(k:Int)<39:=zo;simp[Instr.index,run_underlying underlying194,asIntOf,sizeOf,typeInfo,hq,hs,hc,Sem.run_bind];rw[if_pos hk];have hagg:(isAgg 146).run prog W=.ok Y W:=by unfold isAgg;rw[Sem.run_bind,run_underlying underlying146 W];rfl
  simp[part,Sem.run_bind,hagg,sizeOf,typeInfo,hq,hs,hx]
def xV(s:YB):Option (ByteArray×Int×Int):=jv.find? (fun x=>x.1.toList==s.toList)
def di(s:YB):Value:=match xV s with|some x=>Ag #[Sr x.1,I J x.2.1,I J x.2.2]|none=>Ag #[Sr ⟨#[]⟩,I J 0,I J 0]
theorem QD(s:YB)(k:Nat)(x:ByteArray×Int×Int)(d:jv[k]? = O x)(a:∀(j:Nat)(y:ByteArray×Int×Int),j<k->jv[j]? = O y->(y.1.toList==s.toList)=Z)(he:(x.1.toList==s.toList)=Y):xV s=O x:=by unfold xV;rw[find?_eq_some_iff_getElem];obtain⟨c,rfl⟩:=Zb.1 d;refine⟨he,k,c,rfl,?_⟩;intro j b;have:=a j _ b (Za zo);simp[this]
theorem NH(s:YB)(a:∀(j:Nat)(y:ByteArray×Int×Int),jv[j]? = O y->(y.1.toList==s.toList)=Z):xV s=X:=by unfold xV;rw[find?_eq_none];intro x c;obtain⟨j,b⟩:=getElem?_of_mem c;simp[a j x b]
theorem mq{P:Program}{b:Func}{p u:Tmp}{a:TypeId}(h:b.results=#[.cell p a,.tmp u])(tmps:YV)(w:YW)(g:Nat)(t:TypeId)(cs:YV)(c:Nat×Nat)(d:TypeDesc)(j:tmps.getD p undef=A (O ⟨g,0,X⟩))(f:w.heap[g]? = O (C cs t c))(k:P.underlying a=O d)(e:(match d with|.struct _|.array _ _=>Y|_=>Z)=Y)(i:(P.info? a).map (·.size)=O cs.size):(results b tmps).run P w=.ok (Tu #[.agg cs,tmps.getD u undef]) w:=by rw[results_cell_tmp h,j];simp[asAddr,run_loadVar_row w g t a cs c d f k e i]
theorem CR{w:YW}{b:Nat}{cs:YV}{T:TypeId}{g i j c d e:Value}(h:Blk w b cs T)(a:cs=#[g,i,j]):Blk (((w.setCell ⟨b,0,X⟩ c).setCell ⟨b,1,X⟩ d).setCell ⟨b,2,X⟩ e) b #[c,d,e] T:=by subst a;have f:=((h.set 0 c).set 1 d).set 2 e;simpa only [Zt,set_cons_succ,set_cons_zero]using f
def jt(w:YW):Prop:=(∃T fr,w.heap[0]? = O (C mS T fr))/\6<=w.heap.size
theorem jt.z{w w':YW}(h:jt w)(a:Below w.heap.size w w'):jt w':=by obtain⟨⟨T,b,c⟩,d⟩:=h;exact⟨⟨T,b,by rw[a.block _ zo];exact c⟩,by have:=a.size;omega⟩
theorem dD(s:YB)(w:YW)(L:jt w):Calls prog 74 #[Sr s] w fun e w'=>e=Rt (Tu #[di s,Bl (xV s).isSome])/\Below w.heap.size w w':=by
 obtain⟨⟨T,D,K⟩,N⟩:=L;have p:(w.alloc (C #[Sr ⟨#[]⟩,I J 0,I J 0] 146)).heap[0]? = O (C mS T D):=by rw[Below.heap_alloc _ _ _ zo];exact K
 have z:=V p;have h:=V (Blk.new w #[Sr ⟨#[]⟩,I J 0,I J 0] 146);have o:(prog.info? 194).map (fun i=>i.size)=O mS.size:=by rw[PD];exact IZ
 have l:=V o;have g:=V PG;have b:=V aV;clear K p o;go_enter func74,ntmps74;go_wp2_with (refine wpList_load_row rfl 194 _ rfl 0 rfl T mS D _ z underlying194 rfl l ?_);clear z l;generalize mS=vA at g ⊢;go_loopw [7] (fun i wr=>∃k:Nat,i=I J k/\k<=39/\(∀(j:Nat)(y:ByteArray×Int×Int),j<k->jv[j]? = O y->(y.1.toList==s.toList)=Z)/\Blk wr w.heap.size #[Sr ⟨#[]⟩,I J 0,I J 0] 146/\Below w.heap.size w wr) (fun i _=>39-(intOf i).toNat);case atStart=>exact⟨0,rfl,zo,fun j y M=>zo,U h,(Ze _ _).alloc (Zc _) _⟩
 case round=>
  clear h;obtain⟨k,rfl,W,c,n,F⟩:=hrel;have a:=V c;have f:=V F;have r:=V n;have Q:=n.u;have R:=n.H;have hl:=n.lt;clear c F n;by_cases u:k<39
  ·obtain⟨x,v⟩:∃x,jv[k]? = O x:=⟨_,Za (by rw[U b];exact u)⟩;have G:=U g k x v;have B:=V v;have H:(k:Int)<39:=zo;clear v;cases he:(x.1.toList==s.toList)
   ·go_wp2;go_roundw;case rel=>refine⟨k+1,by go_num,zo,?_,r.alloc _,f.alloc f.size _⟩;intro j y M d;rcases Nat.lt_or_ge j k with E|E;exact U a j y E d;have:j=k:=zo;subst this;rw[U B]at d;obtain rfl:=Zl d;exact he
    case measure=>exact zv
   ·have m:=QD s k x B a he;have q:=V m;clear m;go_wp2;refine bodyPost_ret (mq (P:=prog) rfl _ _ w.heap.size 146 _ (0,0) _ rfl ((CR r rfl).alloc _) underlying146 rfl dL) rfl ?_;unfold di;rw[U q];exact⟨rfl,(((f.setCell (Zc _) _).setCell (Zc _) _).setCell (Zc _) _).alloc (by have:=f.size;simpa using this) _⟩
  ·have t:k=39:=zo;subst t;have m:=NH s (fun j y d=>U a j y (by have:=(Zb.1 d).1;rw[U b]at this;exact this) d);have q:=V m;clear m;go_wp2;refine bodyPost_ret (mq (P:=prog) rfl _ _ w.heap.size 146 _ (0,0) _ rfl (CR r rfl) underlying146 rfl dL) rfl ?_;unfold di;rw[U q];exact⟨rfl,((f.setCell (Zc _) _).setCell (Zc _) _).setCell (Zc _) _⟩
theorem Cn{s:YB}{x:ByteArray×Int×Int}(h:xV s=O x):x∈jv/\s=x.1:=by
 unfold xV at h;refine⟨mem_of_find?_eq_some h,?_⟩;have:=find?_some h;have e:x.1.toList=s.toList:=by simpa using this
 rw[Zv,Zv]at e;exact(lN e).symm
theorem Ju{s:YB}(h:xV s=X):∀x∈jv,x.1.data.toList≠s.data.toList:=by unfold xV at h;intro x a e;have:=find?_eq_none.1 h x a;rw[Zv,Zv]at this;simp[e]at this
def ny(l:List UInt8):Int:=match xC.find? (fun x=>x.1.data.toList==l)with|some x=>x.2|none=>-1
theorem oy(s:YB):yZ s=ny s.data.toList:=by unfold yZ ny;simp only[Zv];rfl
def aT(l:List UInt8):Bool:=wZ.any fun t=>l==t
theorem wL(s:YB):jB s=aT s.data.toList:=by unfold jB aT;simp only[Zv]
def QK(l:List UInt8):Option Int:=if l.head? = O 45 then(qH l.tail 9223372036854775808).map (fun n:Nat=>-(n:Int))else(qH l 9223372036854775807).map (fun n:Nat=>(n:Int))
theorem TP(s:YB):qe s=QK s.data.toList:=by unfold qe QK;simp only[Zv]
def oD:List UInt8:=[114,101,99,117,114,115,101]
def Aj(x:ByteArray×Int×Int):Bool:=let l:=x.1.data.toList
 if x.2.1=0 then !xr l&&!aT l&&ny l==x.2.2&&decide (0<=x.2.2)
 else if x.2.1=1 then l==[58]
 else if x.2.1=2 then l==[118,97,114,105,97,98,108,101]
 else if x.2.1=3 then l==[99,111,110,115,116,97,110,116]
 else if x.2.1=4 then l==oD
 else if x.2.1=5 then l==[105,102]
 else if x.2.1=6 then l==[98,101,103,105,110]
 else if x.2.1=7 then l==[100,111]
 else x.2.1==8&&(l==[59] || (aT l&&!(l==oD)&&!xr l&&!(l==[105,102])&&!(l==[98,101,103,105,110])&&!(l==[100,111])))
theorem Qx:jv.all Aj=Y:=zd
theorem Qw{s:YB}{x:ByteArray×Int×Int}(h:xV s=O x):s=x.1/\Aj x=Y:=by obtain⟨a,b⟩:=Cn h;exact⟨b,all_eq_true.1 Qx x a⟩
theorem PH:jv.all (fun x=>decide (0<=ny x.1.data.toList) || aT x.1.data.toList)=Y:=zd
theorem OK:wZ.all (fun t=>jv.any fun x=>x.1.data.toList==t)=Y:=zd
theorem QU:xC.all (fun y=>jv.any fun x=>x.1.data.toList==y.1.data.toList)=Y:=zd
theorem MG:[[58],[59],[118,97,114,105,97,98,108,101],[99,111,110,115,116,97,110,116],oD].all (fun t=>wZ.any fun x=>x==t)=Y:=zd
theorem SW:QK oD=X:=zd
theorem Oe:ny oD=-1:=zd
theorem CP{s:YB}(h:xV s=X):aT s.data.toList=Z:=by cases e:aT s.data.toList;rfl;unfold aT at e;obtain⟨t,b,e⟩:=any_eq_true.1 e;have:=all_eq_true.1 OK t b;obtain⟨x,c,a⟩:=any_eq_true.1 this;exact absurd (by rw[beq_iff_eq]at e a;rw[a,e]) (Ju h x c)
theorem FE{s:YB}(h:xV s=X):yZ s=-1:=by
 rw[oy];unfold ny;cases e:xC.find? (fun x=>x.1.data.toList==s.data.toList)with
 |none=>rfl
 |some y=>have c:=mem_of_find?_eq_some e;have b:=find?_some e;have:=all_eq_true.1 QU y c;obtain⟨x,d,a⟩:=any_eq_true.1 this;exact absurd (by rw[beq_iff_eq]at b a;rw[a,b]) (Ju h x d)
theorem fp{l t:List UInt8}(h:aT l=Z)(c:(wZ.any fun x=>x==t)=Y):(l==t)=Z:=by
 cases e:(l==t);rfl;have b:l=t:=by simpa using e
 unfold aT at h;obtain⟨x,d,a⟩:=any_eq_true.1 c;have:=any_eq_false.1 h x d;rw[b]at this;exact absurd (by rw[beq_iff_eq]at a ⊢;exact a.symm) this
theorem MH{l:List UInt8}(h:aT l=Z):xr l=Z/\(l==oD)=Z:=by have a:=MG;simp only[all_cons,all_nil,Bool.and_true,Bool.and_eq_true]at a;obtain⟨b,c,d,e,f⟩:=a;unfold xr;rw[fp h b,fp h c,fp h d,fp h e,fp h f];exact⟨rfl,rfl⟩
theorem pX (names:List (ByteArray×Int×Int)) (s:YB):decide (0≤jG names s)=(names.find? (fun x=>x.1 == s)).isSome:=by
 unfold jG;cases e:names.findIdx? (fun x=>x.1 == s) with
 |none=>have h1:=findIdx?_eq_none_iff.1 e;have:names.find? (fun x=>x.1 == s)=X:=find?_eq_none.2 (fun x hx=>by have:=h1 x hx;simp[this]);rw[this];simp
 |some k=>
  obtain⟨hk,h1,h2⟩:=findIdx?_eq_some_iff_getElem.1 e;have:names.find? (fun x=>x.1 == s)=O names[k]:=by rw[find?_eq_some_iff_getElem];exact⟨h1,k,hk,rfl,fun j hj=>by have:=h2 j hj;simpa using this⟩
  rw[this];simp
theorem Sq{names:List (ByteArray×Int×Int)}{s:YB}{x:ByteArray×Int×Int}(h:names.find? (fun x=>x.1==s)=O x):0<=jG names s/\names[(jG names s).toNat]? = O x:=by obtain⟨a,k,d,rfl,b⟩:=find?_eq_some_iff_getElem.1 h;have e:names.findIdx? (fun x=>x.1==s)=O k:=findIdx?_eq_some_iff_getElem.2 ⟨d,a,fun j c=>by have:=b j c;simpa using this⟩;unfold jG;rw[e];simp
theorem lB(st:RS):(!st.E.toList.isEmpty&&!(xV st.E).isSome&&!(qe st.E).isSome&&!(st.N.find? (fun x=>x.1==st.E)).isSome)=!jX st:=by
 unfold jX;rw[pX];have c:(decide (0<=yZ st.E) || jB st.E)=(xV st.E).isSome:=by
  cases e:xV st.E with
  |none=>rw[FE e,wL,CP e];rfl
  |some x=>obtain⟨a,b⟩:=Cn e;have:=all_eq_true.1 PH x a;rw[oy,wL,b];simpa using this
 rw[<-c];cases st.E.toList.isEmpty<;>cases (qe st.E).isSome<;>cases decide (0<=yZ st.E)<;>cases jB st.E<;>cases (st.N.find? (fun x=>x.1==st.E)).isSome<;>rfl
structure jq(st:RS):Prop where
 N:∀n∈st.N,xV n.1=X
 word:0<=st.P->xV st.name=X/\st.N.find? (fun x=>x.1==st.name)=X/\st.name.size<=2000
theorem jq.of{st a:RS}(h:jq st)(b:a.N=st.N)(c:a.P=st.P)(d:a.name=st.name):jq a:=⟨by rw[b];exact h.N,by rw[b,c,d];exact h.word⟩
theorem aJ{st:RS}(h:jq st)(op arg:Int):jq (zQ st op arg):=by unfold zQ;split<;>exact h.of rfl rfl rfl
theorem Bz{st:RS}(h:jq st)(n:Nat):jq (yN st n):=by unfold yN;split<;>exact h.of rfl rfl rfl
theorem fP{st:RS}(h:jq st)(e:Int):jq (yp st e):=by unfold yp;split<;>exact h.of rfl rfl rfl
theorem fQ{st:RS}(h:jq st):jq (zF st):=h.of rfl rfl rfl
theorem nk{st:RS}(h:jq st)(x:ByteArray×Int×Int):jq (xn st x):=h.of rfl rfl rfl
theorem nj{st:RS}(h:jq st)(l:List (ByteArray×Int×Int)):jq {st with Q:=l}:=h.of rfl rfl rfl
theorem Ch{st:RS}{m:Nat}(h:Inv st m)(b:(zP st).err=0):jX (zF st)=Z/\zP st=zF st/\xV (zF st).E=X/\(zF st).N.find? (fun x=>x.1==(zF st).E)=X/\(zF st).E.size<=2000:=by
 have a:jX (zF st)=Z:=by cases e:jX (zF st);rfl;unfold zP at b;rw[e]at b;simp only[if_true]at b;unfold yp at b;split at b;simp at b;contradiction
 have c:=lB (zF st);rw[a]at c;simp only[Bool.not_false,Bool.and_eq_true,Bool.not_eq_true']at c;obtain⟨⟨⟨_,d⟩,_⟩,f⟩:=c;refine⟨a,by unfold zP;rw[a];rfl,Option.not_isSome_iff_eq_none.1 (by simp[d]),Option.not_isSome_iff_eq_none.1 (by simp[f]),?_⟩;have:=qY st;have:=h.size;omega
theorem Fq{st:RS}(h:jq st)(c:st.P<0){t:YB}(b:xV t=X)(op arg:Int):jq {st with N:=st.N++[(t,op,arg)]}:=by refine⟨?_,fun e=>by simp at e;omega⟩;intro n a;simp at a;rcases a with a|rfl;exact h.N n a;exact b
theorem NS{st:RS}{m:Nat}(l:Inv st m)(h:jq st):jq (qt st):=by
 unfold qt;split;split;exact fP h _;rename_i a;have b:0<=st.P:=by rcases Int.lt_or_le st.P 0 with e|e;exact absurd (Zg e) a;exact e
 unfold vW;refine⟨?_,fun e=>by simp at e⟩;intro n c;simp at c;rcases c with c|rfl;exact(aJ h 4 0).N n c;exact((aJ h 4 0).word (by unfold zQ;rw[if_pos b];exact b)).1;split;exact fP h _;rename_i a;have b:st.P<0:=by rcases Int.lt_or_le st.P 0 with e|e;exact e;exact absurd (Zg e) a
 split;unfold zP;split;exact fP (fQ h) _;exact fQ h;rename_i o;obtain⟨p,i,f,j,k⟩:=Ch l zo;rw[i];have d:=fQ h;split;exact⟨d.N,fun _=>⟨f,j,k⟩⟩;split;exact(Fq d b f 0 (zF st).cells).of rfl rfl rfl;have g:jq (xt (zF st))/\(xt (zF st)).P<0:=by unfold xt;split;exact⟨fQ d,b⟩;refine⟨fP (fQ d) _,?_⟩;rw[(il _ _).2.1];exact b
 exact Fq g.1 g.2 f 0 _
theorem KW{st:RS}(h:jq st):jq (qx st):=by unfold qx;simp only;split;exact nk (aJ h _ _) _;split;exact nk h _;split;exact nk (aJ h _ _) _;split;exact fP h _;unfold vM;simp only;split;exact nk (Bz (aJ (nj h _) _ _) _) _;split;exact Bz (nj h _) _;split;exact aJ (nj h _) _ _;split;exact nk (aJ (nj h _) _ _) _;split;exact Bz (aJ (nj h _) _ _) _;split;exact aJ (nj h _) _ _;exact fP h _
theorem KX{st:RS}(h:jq st):jq (qO st):=by unfold qO;split;exact aJ h _ _;split;exact aJ h _ _;split;split;exact aJ h _ _;exact h;split;exact aJ h _ _;exact fP h _
theorem SF{st:RS}{m:Nat}(a:Inv st m)(h:jq st):jq (yd st):=by unfold yd;split;exact NS a h;split;exact KW h;exact KX h
theorem QH(s:YB):jq (yU s):=⟨by simp[yU],by simp[yU]⟩
section
variable {st:RS} {x:ByteArray×Int×Int}
theorem SA(h:xV st.E=O x)(i:x.2.1=0):yd st=zQ st x.2.2 0:=by
 obtain⟨f,e⟩:=Qw h;unfold Aj at e;simp only[if_pos i,Bool.and_eq_true,Bool.not_eq_true',decide_eq_true_eq,beq_iff_eq]at e;obtain⟨⟨⟨a,b⟩,c⟩,d⟩:=e;have g:yZ st.E=x.2.2:=by rw[oy,f,c]
 unfold yd xM qO;rw[wL,Zv,g,f,a,b];simp[d]
theorem Qt(o:jq st)(h:xV st.E=O x)(n:x.2.1=4):yd st=if 0<=st.P then zQ st 3 st.P else yp st 2:=by
 obtain⟨l,b⟩:=Qw h;unfold Aj at b;simp only[n,if_neg (by decide:¬(4:Int)=0),if_neg (by decide:¬(4:Int)=1),if_neg (by decide:¬(4:Int)=2),if_neg (by decide:¬(4:Int)=3),if_true,beq_iff_eq]at b;have a:st.E.data.toList=oD:=by rw[l,b]
 have i:yZ st.E=-1:=by rw[oy,a,Oe]
 have en:qe st.E=X:=by rw[TP,a,SW]
 have g:¬0<=jG st.N st.E:=by have:=pX st.N st.E;intro k;rw[decide_eq_true k]at this;obtain⟨y,d⟩:=Option.isSome_iff_exists.1 this.symm;have c:=o.N y (mem_of_find?_eq_some d);have m:=find?_some d;rw[(Bb _ _).1 m,h]at c;simp at c
 have f:xr st.E.toList=Z:=by rw[Zv,a];decide
 have e:xM st.E=Z:=by unfold xM;rw[wL,Zv,a];decide
 have j:(st.E.toList==[114,101,99,117,114,115,101])=Y:=by rw[Zv,a];decide
 unfold yd qO;rw[f,e,i,en,if_neg g,j];simp
theorem Nq (h:xV st.E=X):yd st=if (qe st.E).isSome then zQ st 0 (qS st.E) else match st.N.find? (fun x=>x.1 == st.E) with|some x=>zQ st x.2.1 x.2.2|none=>yp st 2:=by
 have hs:=CP h;have hp:=FE h;have hd:=MH hs;unfold yd xM qO;rw[wL,Zv,hs,hd.1,hp];simp only[Bool.false_eq_true,if_false,Bool.false_and,if_neg (by decide:¬ (0:Int)≤-1)];split;rfl;cases e:st.N.find? (fun x=>x.1 == st.E) with
 |some x=>obtain⟨h1,h2⟩:=Sq e;rw[if_pos h1,h2]
 |none=>
  have:=pX st.N st.E;rw[e]at this;have h0:¬ 0≤jG st.N st.E:=by simpa using this
  have hr:¬ ((st.E.data.toList == [114,101,99,117,114,115,101])=Y∧0≤st.P):=fun h=>by
    have:=hd.2
    unfold oD at this
    rw[this]at h
    exact absurd h.1 zs
  rw[if_neg h0,if_neg hr]
end
def wS(st:RS)(s:Int)(tok:YB):Option RS:=if tok.toList==[117,110,116,105,108]then O (zQ st 2 s)
 else if tok.toList==[119,104,105,108,101]then O (xn (zQ st 2 0) (⟨#[119,104,105,108,101]⟩,s,zM st))
 else X
theorem Bg(B:Nat)(x:CX)(st:RS)(w:YW)(h:CpE B w x st)(l m:Nat)(s:Int)(j:Blk w l #[A (O ⟨x.b,0,X⟩)] 91)(k:Blk w m #[I J s] 2)(a:YB)(g:zM st<4000)(u:st.Q.length<3980):Calls prog 190 #[Sr a,A (O ⟨l,0,X⟩),A (O ⟨m,0,X⟩)] w (ji B w x (wS st s a)):=by
 obtain⟨fw,fo,p⟩:=h.f;have n:=V (gZ B x st w fw fo p 2 s g);have q:=V (DG B x st w h s g u);obtain⟨s0,vo,d⟩:=p.D;have hc:=d.u;have e0:=p.size0;unfold xH at hc;have a0:=j.u;have c0:=k.u;have b0:=j.lt;have d0:=k.lt;have D:x.b<w.heap.size+1:=zo;have G:x.b<=w.heap.size:=zo;have L:x.b<=w.heap.size+1:=zo;have P:x.b<w.heap.size+1+1:=zo;have E:l<w.heap.size+1:=zo;have H:l<=w.heap.size:=zo;have M:l<=w.heap.size+1:=zo;have Q:l<w.heap.size+1+1:=zo;have F:m<w.heap.size+1:=zo;have K:m<=w.heap.size:=zo;have N:m<=w.heap.size+1:=zo;have R:m<w.heap.size+1+1:=zo;clear d p h j k;generalize o:yI x st=hx at *;have W:=V o;clear o;unfold wS;by_cases c:(a.toList==[117,110,116,105,108])=Y
 ·rw[if_pos c];have r:=yV c;subst r;clear c;go_enter func190,ntmps190;go_wp2;go_region_law (first | (refine zN rfl 77 #[.const (I J 2),.tmp 12] #[3,2] rfl func77 da cX #[I J 2,I J s] ze (bg 2 s _) ?_;rintro e w1 ⟨rfl,rfl⟩;refine⟨_,rfl,?_⟩) | (refine zN rfl 50 #[.tmp 11,.tmp 14] #[96,33] rfl func50 xS xR #[A (O ⟨hx,0,X⟩),S (O ⟨w.heap.size+1,0,X⟩) 1 1] ze (U n _ (w.heap.size+1) zb zk) ?_;rintro e w1 ⟨rfl,i,c⟩;refine⟨_,rfl,?_⟩;have T:=V c;clear c i));all_goals go_wp2;go_ret;obtain⟨v,_,y,z⟩:=U T;exact ji.yes v.e y z
 ·rw[if_neg c];by_cases i:(a.toList==[119,104,105,108,101])=Y
  ·rw[if_pos i];have t:=yV i;subst t;clear c i;go_enter func190,ntmps190;go_wp2_with fail;refine q.m ?_;rintro e w2 ⟨rfl,v,y,z⟩;go_wp2;go_ret;exact ji.yes v y z
  ·rw[if_neg i];have e1:(a.toList==[117,110,116,105,108])=Z:=by simpa using c
   have e2:(a.toList==[119,104,105,108,101])=Z:=by simpa using i
   go_enter func190,ntmps190;go_wp2;go_ret;exact ji.no
def wT(st:RS)(s:Int)(n:Nat)(tok:YB):Option RS:=if tok.toList==[114,101,112,101,97,116]then O (yN (zQ st 1 s) n)else X
theorem Bj(B:Nat)(x:CX)(st:RS)(w:YW)(h:CpE B w x st)(p q jb n:Nat)(s:Int)(g:Blk w p #[A (O ⟨x.b,0,X⟩)] 91)(o:Blk w q #[I J s] 2)(y:Blk w jb #[I J n] 2)(i:YB)(z:zM st<4000)(hn:n<zM st):Calls prog 217 #[Sr i,A (O ⟨p,0,X⟩),A (O ⟨q,0,X⟩),A (O ⟨jb,0,X⟩)] w (ji B w x (wT st s n i)):=by
 obtain⟨fw,fo,k⟩:=h.f;have j:=V (gZ B x st w fw fo k 1 s z);obtain⟨s0,vo,l⟩:=k.D;have L:=l.u;have l0:=k.size0;unfold xH at L;have K:=g.u;have j0:=o.u;have i0:=g.lt;have k0:=o.lt;have Q:x.b<w.heap.size+1:=zo;have W:x.b<=w.heap.size:=zo;have c0:x.b<=w.heap.size+1:=zo;have f0:x.b<w.heap.size+1+1:=zo;have R:p<w.heap.size+1:=zo;have a0:p<=w.heap.size:=zo;have d0:p<=w.heap.size+1:=zo;have g0:p<w.heap.size+1+1:=zo;have T:q<w.heap.size+1:=zo;have b0:q<=w.heap.size:=zo;have e0:q<=w.heap.size+1:=zo;have h0:q<w.heap.size+1+1:=zo;have F:=V g;have G:=V y;clear l k h g o y;generalize v:yI x st=P at *;have r:=V v;clear v;unfold wT;by_cases a:(i.toList==[114,101,112,101,97,116])=Y
 ·rw[if_pos a];have H:=yV a;subst H;clear a;go_enter func217,ntmps217;go_wp2;go_cut []from 8 to 21 (fun wc=>CpF B wc x (zQ st 1 s) fw fo/\jE w x.b st fw fo/\zI w wc/\Below B w wc)
  case first=>go_region_law (first | (refine zN rfl 77 #[.const (I J 1),.tmp 12] #[3,2] rfl func77 da cX #[I J 1,I J s] ze (bg 1 s _) ?_;rintro e w1 ⟨rfl,rfl⟩;refine⟨_,rfl,?_⟩) | (refine zN rfl 50 #[.tmp 11,.tmp 14] #[96,33] rfl func50 xS xR #[A (O ⟨P,0,X⟩),S (O ⟨w.heap.size+1,0,X⟩) 1 1] ze (U j _ (w.heap.size+1) zb zk) ?_;rintro e w1 ⟨rfl,h2,a⟩;refine⟨_,rfl,?_⟩;have D:=V a;clear a h2));all_goals go_wp2;go_meet;exact U D
  case rest=>obtain⟨k,hT,d,t⟩:=hcut;have M:=(d _ _ _ F (Zg rfl)).u;have N:=(d _ _ _ G (Zf (Zg rfl))).u;have m:=PQ B x (zQ st 1 s) wc k.e n (by rw[vw];omega);rw[eC,U r]at m;have E:=V m;obtain⟨s1,m0,c⟩:=k.D;have u:=c.u;unfold xH at u;rw[eC,U r]at u;have HX:=V (And.intro d t);clear k hT d t K L j m c;go_wp2;go_region_law (refine zN rfl 188 #[.tmp 19,.tmp 20] #[96,2] rfl func188 se rW #[A (O ⟨P,0,X⟩),I J n] ze (U E _ zb) ?_;rintro e w1 ⟨rfl,a⟩;refine⟨_,rfl,?_⟩;have D:=V a;clear a);all_goals go_wp2;go_ret;obtain⟨k1,k2,k3⟩:=U D;obtain⟨m2,m3⟩:=U HX;exact ji.yes k1 (m2.trans k2) (m3.trans k3)
 ·rw[if_neg a];have e1:(i.toList==[114,101,112,101,97,116])=Z:=by simpa using a
  go_enter func217,ntmps217;go_wp2;go_ret;exact ji.no
def dO(st:RS)(s:Int)(tok:YB):Option RS:=if tok.toList==[108,111,111,112]then O (zQ st 7 s)else X
theorem GR(B:Nat)(x:CX)(st:RS)(w:YW)(h:CpE B w x st)(j k:Nat)(s:Int)(g:Blk w j #[A (O ⟨x.b,0,X⟩)] 91)(i:Blk w k #[I J s] 2)(a:YB)(n:zM st<4000):Calls prog 192 #[Sr a,A (O ⟨j,0,X⟩),A (O ⟨k,0,X⟩)] w (ji B w x (dO st s a)):=by
 obtain⟨fw,fo,o⟩:=h.f;have l:=V (gZ B x st w fw fo o 7 s n);obtain⟨s0,vo,d⟩:=o.D;have N:=d.u;have a0:=o.size0;unfold xH at N;have P:=g.u;have R:=i.u;have Q:=g.lt;have T:=i.lt;have q:x.b<w.heap.size+1:=zo;have u:x.b<=w.heap.size:=zo;have z:x.b<=w.heap.size+1:=zo;have F:x.b<w.heap.size+1+1:=zo;have r:j<w.heap.size+1:=zo;have v:j<=w.heap.size:=zo;have D:j<=w.heap.size+1:=zo;have G:j<w.heap.size+1+1:=zo;have t:k<w.heap.size+1:=zo;have y:k<=w.heap.size:=zo;have E:k<=w.heap.size+1:=zo;have H:k<w.heap.size+1+1:=zo;clear d o h g i;generalize m:yI x st=W at *;have L:=V m;clear m;unfold dO;by_cases c:(a.toList==[108,111,111,112])=Y
 ·rw[if_pos c];have p:=yV c;subst p;clear c;go_enter func192,ntmps192;go_wp2;go_region_law (first | (refine zN rfl 77 #[.const (I J 7),.tmp 11] #[3,2] rfl func77 da cX #[I J 7,I J s] ze (bg 7 s _) ?_;rintro e w1 ⟨rfl,rfl⟩;refine⟨_,rfl,?_⟩) | (refine zN rfl 50 #[.tmp 10,.tmp 13] #[96,33] rfl func50 xS xR #[A (O ⟨W,0,X⟩),S (O ⟨w.heap.size+1,0,X⟩) 1 1] ze (U l _ (w.heap.size+1) zb zk) ?_;rintro e w1 ⟨rfl,M,c⟩;refine⟨_,rfl,?_⟩;have K:=V c;clear c M));all_goals go_wp2;go_ret;obtain⟨k1,_,k2,k3⟩:=U K;exact ji.yes k1.e k2 k3
 ·rw[if_neg c];have e1:(a.toList==[108,111,111,112])=Z:=by simpa using c
  go_enter func192,ntmps192;go_wp2;go_ret;exact ji.no
theorem Ol(l:YL)(f:Nat)(s:Int)(m:MS)(h:m.aE=Y):zO l f s m=(m,0,s):=by cases f<;>simp[zO,h]
theorem Om(l:YL)(s:Int)(m:MS)(h:m.aE=Z):zO l 0 s m=(m,15,s):=by simp[zO,h]
theorem Ta(l:YL)(f:Nat)(s:Int)(m:MS)(h:m.aE=Z)(he:(yb l m).2=0):zO l (f+1) s m=zO l f (s+1) (yb l m).1:=by simp[zO,h,he]
theorem Re(l:YL)(f:Nat)(s:Int)(m:MS)(h:m.aE=Z)(he:(yb l m).2≠0):zO l (f+1) s m=((yb l m).1,(yb l m).2,s+1):=by simp[zO,h,he]
theorem PmE.cellInt{B:Nat}{w:YW}{b a:Nat}{c:Value}{m:MS}{st:Int}(h:PmE B w b a c m st):YtmeiikjpaepogaaGreatDoor.cellInt w b 7=st:=by obtain⟨i,d,e,f,g,h⟩:=h;have:=h.D.u 7;simp[yC]at this;simp[YtmeiikjpaepogaaGreatDoor.cellInt,this,intOf]
theorem PmE.tick{B:Nat}{w:YW}{b a:Nat}{c:Value}{m:MS}{st:Int}(h:PmE B w b a c m st)(p s:Int):PmE B ((w.setCell ⟨b,6,X⟩ (I J p)).setCell ⟨b,7,X⟩ (I J s)) b a c {m with pc:=p} s/\Below B w ((w.setCell ⟨b,6,X⟩ (I J p)).setCell ⟨b,7,X⟩ (I J s))/\xu w ((w.setCell ⟨b,6,X⟩ (I J p)).setCell ⟨b,7,X⟩ (I J s)):=by obtain⟨q,k,l,n,o,h⟩:=h;obtain⟨f,i,d⟩:=h.field 6 (I J p) {m with pc:=p} st rfl rfl;obtain⟨g,j,e⟩:=f.field 7 (I J s) {m with pc:=p} s rfl rfl;exact⟨⟨_,_,_,_,_,g⟩,d.trans e,i.trans j⟩
structure aq(B:Nat)(w:YW)(g:Nat)(l:YL):Prop where
 low:g<B
 u:∀(k:Nat)(x:Int×Int),l[k]? = O x->w.cell? ⟨g,k*2,X⟩=O (I J x.1)/\w.cell? ⟨g,k*2+1,X⟩=O (I J x.2)
theorem aq.to{B:Nat}{w w':YW}{g:Nat}{l:YL}(h:aq B w g l)(a:Below B w w'):aq B w' g l:=⟨h.low,fun k x b=>by rw[a.u (by simpa using h.low),a.u (by simpa using h.low)];exact h.u k x b⟩
structure Mg(B:Nat)(w:YW)(b tb:Nat)(vl:Value)(l:YL)(fuel:Int)(r:MS×Int×Int)(mk:MS)(k:Nat)(wr:YW):Prop where
 pm:PmE B wr b tb vl mk k
 ok:MOk mk
 at_:mk.aE=Y\/gd l mk
 run:zO l (fuel.toNat-k) k mk=r
 few:(k:Int)<=1000000000
 z:Below B w wr
theorem Ob(B b z g cap:Nat)(l:YL)(m:MS)(w w0:YW)(fuel:Int)(u0:fuel<=1000000000)(hw:Below B w0 w)(hT:sC B w0 z)(h:PmE B w b z (S (O ⟨g,0,X⟩) l.length cap) m 0)(hm:MOk m)(hl:yX l)(hr:gd l m)(hg:aq B w0 g l):Calls prog 63 #[A (O ⟨b,0,X⟩),I J fuel] w fun e w'=>e=Rt (I J (zO l fuel.toNat 0 m).2.1)/\PmE B w' b z (S (O ⟨g,0,X⟩) l.length cap) (zO l fuel.toNat 0 m).1 (zO l fuel.toNat 0 m).2.2/\MOk (zO l fuel.toNat 0 m).1/\Below B w w':=by
 have i:Mg B w b z (S (O ⟨g,0,X⟩) l.length cap) l fuel (zO l fuel.toNat 0 m) m 0 w:=⟨h,hm,Zf hr,rfl,zo,Ze _ _⟩;generalize zO l fuel.toNat 0 m=res at *;obtain⟨rm,re,rs⟩:=res;have a:=V i;have HW:=V hw;have HT:=V hT;have HG:=V hg;have HL:=V hl;have y0:(l.length:Int)<=5000:=by have:=hl.R;omega
 clear i hw hT hg h hm hr hl;go_enter func63,ntmps63;go_wp2;go_loopw [] (fun wr=>∃(mk:MS)(k:Nat),Mg B w b z (S (O ⟨g,0,X⟩) l.length cap) l fuel (rm,re,rs) mk k wr) (fun wr=>(fuel-YtmeiikjpaepogaaGreatDoor.cellInt wr b 7).toNat);case atStart=>exact⟨m,0,U a⟩
 case round=>
  clear a;obtain⟨mk,k,hrel⟩:=hrel;have a:=V hrel;obtain⟨vS,vA,vC,vE,vO,hp⟩:=hrel.pm;have T:=hp.D.u;unfold yC at T;have q0:=hp.D.lt;cases hh:mk.aE
  ·rw[hh]at T;have j:gd l mk:=by rcases hrel.at_ with e|e;rw[hh]at e;cases e;exact e
   by_cases t0:(k:Int)<fuel
   ·have b0:decide (fuel<=(k:Int))=Z:=zp;obtain⟨y,H⟩:∃y:Nat,mk.pc=y:=⟨mk.pc.toNat,by have:=j.pc;omega⟩;have h0:y<l.length:=by have:=j.pc;omega
    obtain⟨x,hx⟩:∃x,l[y]? = O x:=⟨_,Za h0⟩;have o:=HL.ins x (Zd hx);obtain⟨op,K⟩:∃op:Nat,x.1=op:=⟨x.1.toNat,zo⟩;have M:yb l mk=zW x.2 (ya op) {mk with pc:=mk.pc+1}:=by unfold yb;rw[H,Zr,hx,<-K]
    have G:=HG.to (HW.trans hrel.z);obtain⟨f0,l0⟩:=G.u y x hx;rw[K]at f0;have hB:=hrel.pm.size;have v0:g<wr.heap.size:=by have:=G.low;omega
    have E:Hid (∀W,Below B wr W->PmE B W b z (S (O ⟨g,0,X⟩) l.length cap) {mk with pc:=(y:Int)+1} ((k+1:Nat):Int)->Calls prog 124 #[A (O ⟨b,0,X⟩),Ag #[I J op,I J x.2]] W (ye B W b z (S (O ⟨g,0,X⟩) l.length cap) ((k+1:Nat):Int) (yb l mk).1 (yb l mk).2)):=fun W hW hP=>by
      rw[M,H]
      exact TB B b z _ _ _ W w0 (HW.trans (hrel.z.trans hW)) HT hP (hrel.ok.pc _) op x.2 zo o.2.1
    have c0:MOk (yb l mk).1:=by rw[M];exact fg x.2 o.2.1 _ _ (hrel.ok.pc _) (dE _)
    have F:=V c0;have R:=V (Ge l mk HL j);have x0:=hrel.few;rw[H]at T;have Q:=V hrel.pm;have o0:(y:Int)<l.length:=zo;have N:=V hrel.z;have v:=V hrel.run;generalize x.2=arg at *;clear hrel hx o K M G hp c0 j;generalize e0:yb l mk=sm at *;obtain⟨m0,g0⟩:=sm;have p:=V e0;clear e0;simp only at E F R;go_wp2;go_cut [5]from 7 to 47 (fun s5 wc=>∃q,s5=A (O ⟨q,0,X⟩)/\Blk wc q #[I J op,I J arg] 65/\wr.heap.size<=q/\Below wr.heap.size wr wc)
    case first=>go_region;all_goals go_wp2;go_meet;refine⟨wr.heap.size,rfl,?_,Zc _,?_⟩;exact(Blk.new wr _ _).drew;exact yr (zB wr _)
    case rest=>
     obtain⟨q,rfl,hq,A0,s⟩:=hcut;obtain⟨wb,rfl⟩:∃wb:YW,wb=wc:=⟨_,rfl⟩;have d0:=Q.z s;have c:=d0.tick ((y:Int)+1) ((k+1:Nat):Int);have j0:=c.2.2 _ _ _ hq (Zf rfl);have d:=V (U E _ ((s.m hB).trans c.2.1) c.1);have P:=V ((s.m hB).trans c.2.1);have a0:=hq.u;have B0:=hq.lt;have p0:b≠q:=zo;obtain⟨uS,uA,uC,uE,uO,u⟩:=d0;have t:=u.D.u;unfold yC at t;rw[hh,]at t;have n0:=u.D.lt;have s0:=u.D.H;have L:(((k+1:Nat):Int))=(k:Int)+1:=zo;rw[L]at d P;clear T s c j0 hq u f0 l0 E Q;go_wp2_with fail;refine d.m ?_;rintro e w2 ⟨rfl,d1,_,d3⟩;have r:Below B w w2:=N.trans (P.trans d3);by_cases he:g0=0
     ·subst he;have D1:=V d1;have D:=V r;clear d1 d3 r d t a0;go_wp2;go_roundw;case rel=>refine⟨m0,k+1,⟨by rw[L];exact U D1,U F,?_,?_,zo,U D⟩⟩;exact(U R) trivial;have f:=U v;obtain⟨n,hn⟩:∃n,fuel.toNat-k=n+1:=⟨fuel.toNat-k-1,zo⟩;have i0:fuel.toNat-(k+1)=n:=zo;rw[hn,Ta l n k mk hh (by rw[U p]),U p]at f;rw[i0,L];exact f
      case measure=>rw[D1.cellInt,a.pm.cellInt];omega
     ·have r0:(g0==0)=Z:=by simpa using he
      have f:=U v;obtain⟨n,hn⟩:∃n,fuel.toNat-k=n+1:=⟨fuel.toNat-k-1,zo⟩;rw[hn,Re l n k mk hh (by rw[U p];exact he),U p]at f;simp only[Prod.mk.injEq]at f;obtain⟨rfl,rfl,rfl⟩:=f;have D1:=V d1;have D:=V r;clear d1 d3 r d t a0;go_wp2;go_ret;exact⟨rfl,U D1,U F,U D⟩
   ·have b0:decide (fuel<=(k:Int))=Y:=zp;have f:=hrel.run;rw[show fuel.toNat-k=0 from zo,Om l k mk hh]at f;simp only[Prod.mk.injEq]at f;obtain⟨rfl,rfl,rfl⟩:=f;clear hrel hp j;go_wp2;go_ret;exact⟨rfl,a.pm,a.ok,a.z⟩
  ·rw[hh]at T;have f:=hrel.run;rw[Ol l _ k mk hh]at f;simp only[Prod.mk.injEq]at f;obtain⟨rfl,rfl,rfl⟩:=f;clear hrel hp;go_wp2;go_ret;exact⟨rfl,a.pm,a.ok,a.z⟩
theorem NJ(F:FuncId)(w:YW):Calls prog 100 #[.func (.func F) #[] #[]] w (fun e w'=>e=Rt (.func (.func 162) #[] #[A (O ⟨w.heap.size,0,X⟩)])/\w'=w.alloc (C #[.func (.func F) #[] #[]] 166)):=by go_enter func100,ntmps100;go_wp2;go_ret;exact⟨rfl,rfl⟩
theorem TO(F:FuncId)(w:YW):Calls prog 110 #[.func (.func F) #[] #[]] w (fun e w'=>e=Rt (.func (.func 165) #[] #[A (O ⟨w.heap.size,0,X⟩)])/\w'=w.alloc (C #[.func (.func F) #[] #[]] 168)):=by go_enter func110,ntmps110;go_wp2;go_ret;exact⟨rfl,rfl⟩
theorem Fl(q:YA)(n c:Nat)(w:YW):Calls prog 116 #[S q n c] w (fun e w'=>e=Rt (.func (.func 166) #[] #[A (O ⟨w.heap.size,0,X⟩)])/\w'=w.alloc (C #[S q n c] 115)):=by go_enter func116,ntmps116;go_wp2;go_ret;exact⟨rfl,rfl⟩
theorem NI(q:YA)(n c:Nat)(w:YW):Calls prog 59 #[S q n c] w (fun e w'=>e=Rt (.func (.func 123) #[] #[A (O ⟨w.heap.size,0,X⟩)])/\w'=w.alloc (C #[S q n c] 115)):=by go_enter func59,ntmps59;go_wp2;go_ret;exact⟨rfl,rfl⟩
theorem Td(B:Nat)(w:YW)(b i op f g:Nat)(G:FuncId)(c:op=12∨op=13)(s:Blk w f #[.func (.func 162) #[] #[A (O ⟨g,0,X⟩)]] 108)(o:Blk w g #[.func (.func G) #[] #[]] 166)(t:f < B)(v:g < B){k:Func}(q:prog.funcs[G]? = O k)(n:(k.name == "runtime.NumGoroutine")=Z)(p:k.body.isNone=Z)(Q:∀x y:Int,y≠0→inI x→inI y→jP G #[I J x,I J y] (yQ op x y)):xT B w b i op 163 #[A (O ⟨f,0,X⟩)]:=by
 refine fV B w b i op _ _ zo ?_;intro W L m st arg l r F K H E a z u;obtain⟨x,y,rfl⟩:=ub (r:=r) (by rw[z];rcases c with e|e<;>subst e<;>rfl);have R:inI x:=H.ints.1 x (by rw[a];simp);have T:inI y:=H.ints.1 y (by rw[a];simp);have D:xZ m=y:=by simp[xZ,a]
 have d:m.C.dropLast=l++[x]:=by rw[a,show l++[x,y]=(l++[x])++[y]from zs,Zx]
 have M:m.C.dropLast.dropLast=l:=by rw[d,Zx]
 have N:zK m.C=y:=by simp[a,zK]
 have P:zK m.C.dropLast=x:=by rw[d,ae]
 by_cases h:y=0;subst h;have j:xd m op=13:=by rcases c with e|e<;>subst e<;>simp[xd,D]
 rw[j,if_neg zo];exact Hb B b i L _ st W K arg _ _ f;have j:xd m op=0:=by rcases c with e|e<;>subst e<;>simp[xd,D,h]
 have e:doS m op arg={m with C:=l++[yQ op x y]}:=by rcases c with e|e<;>subst e<;>simp[doS,M,N,P]
 rw[j,if_pos rfl,e];exact Qb B b i L _ st W K arg _ _ _ u.1 f g G (s.z F t) (o.z F v) q n p _ h (Q x y h R T)
theorem KR(F:FuncId)(w:YW):Calls prog 104 #[.func (.func F) #[] #[]] w (fun e w'=>∃c b,e=Rt (.func (.func 163) #[] #[A (O ⟨c,0,X⟩)])/\Below w.heap.size w w'/\Blk w' c #[.func (.func 162) #[] #[A (O ⟨b,0,X⟩)]] 108/\Blk w' b #[.func (.func F) #[] #[]] 166):=by have d:=V (NJ F);have f:∀(a:Addr)(W:YW)(cap:YV),(store a (.func (.func 162) #[] cap)).run prog W=stored prog W a (.func (.func 162) #[] cap) .plain:=fun a W cap=>run_store _ _ _ _ _ rfl;go_enter func104,ntmps104;go_wp2_with fail;refine(U d _).m ?_;rintro e g ⟨rfl,rfl⟩;go_wp2;go_ret;refine⟨w.heap.size+1,w.heap.size,rfl,yG w _ _,?_,?_⟩;have:=Blk.new (w.alloc (C #[.func (.func F) #[] #[]] 166)) #[.func (.func 162) #[] #[A (O ⟨w.heap.size,0,X⟩)]] 108;rw[ke]at this;exact this;exact(Blk.new w _ _).z (zB (w.alloc (C #[.func (.func F) #[] #[]] 166)) _) zs
def xq(n:Int):Bool:=decide (1<=n/\n<=1000)
theorem pk(q c:Nat)(g h l m:Int)(w:YW)(D:∀j:Nat,w.cell? ⟨q,j,X⟩=(#[I J g,I J h,I J l,I J m]:YV)[j]?):Calls prog 61 #[S (O ⟨q,0,X⟩) 4 c] w (fun e w'=>e=Rt (Bl (xq g&&xq h&&xq l&&xq m))/\w'=w):=by
 have d:∀k:Nat,k<4->∃x,([g,h,l,m]:YI)[k]? = O x/\w.cell? ⟨q,k,X⟩=O (I J x):=by
  intro k y;rw[D k];match k,y with
  |0,_=>exact⟨_,rfl,rfl⟩
  |1,_=>exact⟨_,rfl,rfl⟩
  |2,_=>exact⟨_,rfl,rfl⟩
  |3,_=>exact⟨_,rfl,rfl⟩
 have b:(xq g&&xq h&&xq l&&xq m)=([g,h,l,m]:YI).all xq:=by simp[Bool.and_assoc]
 have E:=V d;have r:=V b;generalize (xq g&&xq h&&xq l&&xq m)=K at *;generalize o:([g,h,l,m]:YI)=ls at *;have z:ls.length=4:=by rw[<-o];rfl
 clear D d b o;go_enter func61,ntmps61;go_wp2;go_loop [7] (fun i=>∃k:Nat,k<=4/\i=I J k/\(ls.take k).all xq=Y) (fun i=>4-(intOf i).toNat);case atStart=>exact⟨0,zo,rfl,rfl⟩
 case round=>
  obtain⟨k,y,rfl,n⟩:=hrel;by_cases u:k<4
  ·obtain⟨x,p,F⟩:=U E k u;have B:(k:Int)<4:=zo;have a:(ls.take (k+1)).all xq=xq x:=by rw[take_add_one,p];simp[n]
   have s:=V a;have v:=V p;by_cases G:x<1
   ·clear a p;go_wp2;go_ret;refine⟨congrArg (fun c=>Ending.returned (Bl c)) ?_,rfl⟩;rw[U r];symm;rw[all_eq_false];exact⟨x,Zd v,by simp[xq];omega⟩
   ·by_cases H:1000<x
    ·clear a p;go_wp2;go_ret;refine⟨congrArg (fun c=>Ending.returned (Bl c)) ?_,rfl⟩;rw[U r];symm;rw[all_eq_false];exact⟨x,Zd v,by simp[xq];omega⟩
    ·have f:Hid (xq x=Y):=by show xq x=Y;simp[xq];omega
     clear a p;go_wp2;go_round;case rel=>exact⟨k+1,zo,by go_num,by rw[U s];exact U f⟩
     case measure=>exact zv
  ·have t:k=4:=zo;subst t;have f:=V n;clear n;go_wp2;go_ret;refine⟨congrArg (fun c=>Ending.returned (Bl c)) ?_,rfl⟩;rw[U r];have:=U f;rw[take_of_length_le zo]at this;exact this.symm
def kY(p:Nat)(l:YL)(en ce ls la lc lo fuel:Int)(x:Int×ByteArray×Int×List Int×List Int):Prop:=(¬xG ls la lc lo->x=(6,⟨#[]⟩,0,[],[])) /\
 (xG ls la lc lo->(zO l fuel.toNat 0 (zZ p ls la lc lo en ce)).2.1=0->x=((zO l fuel.toNat 0 (zZ p ls la lc lo en ce)).2.1,(zO l fuel.toNat 0 (zZ p ls la lc lo en ce)).1.out,(zO l fuel.toNat 0 (zZ p ls la lc lo en ce)).2.2,(zO l fuel.toNat 0 (zZ p ls la lc lo en ce)).1.C,(zO l fuel.toNat 0 (zZ p ls la lc lo en ce)).1.cells)) /\
 (xG ls la lc lo->(zO l fuel.toNat 0 (zZ p ls la lc lo en ce)).2.1≠0->x=((zO l fuel.toNat 0 (zZ p ls la lc lo en ce)).2.1,(zO l fuel.toNat 0 (zZ p ls la lc lo en ce)).1.out,(zO l fuel.toNat 0 (zZ p ls la lc lo en ce)).2.2,[],[]))
theorem QQ{p:Nat}{l:YL}{en ce ls la lc lo fuel:Int}{x y:Int×ByteArray×Int×List Int×List Int}(h:kY p l en ce ls la lc lo fuel x)(k:kY p l en ce ls la lc lo fuel y):x=y:=by by_cases a:xG ls la lc lo;by_cases he:(zO l fuel.toNat 0 (zZ p ls la lc lo en ce)).2.1=0;rw[h.2.1 a he,k.2.1 a he];rw[h.2.2 a he,k.2.2 a he];rw[h.1 a,k.1 a]
theorem sM(p:Nat)(ls la lc lo fuel:Int)(l:YL)(en ce:Int)(w:YW)(h:Cd w.heap.size w p l en ce)(m:yX l)(j:0<=en/\en<l.length)(i:0<=ce/\ce<=1000)(k:fuel<=1000000000):Calls prog 70 #[A (O ⟨p,0,X⟩),Ag #[I J ls,I J la,I J lc,I J lo],I J fuel] w fun e w'=>∃er q o out st s r,e=Rt (xX er q o out st)/\xe w' w.heap.size q o s r/\Below w.heap.size w w'/\kY p l en ce ls la lc lo fuel (er,out,st,s,r):=by by_cases c:xG ls la lc lo;refine(Tc p ls la lc lo fuel l en ce w h m j i c k _ rfl).m ?_;rintro e w' ⟨q,o,rfl,g,t,f⟩;by_cases he:(zO l fuel.toNat 0 (zZ p ls la lc lo en ce)).2.1=0;obtain⟨a,b,u,v⟩:=g he;exact⟨_,_,_,_,_,_,_,rfl,⟨a,b,zo,zo⟩,f,fun d=>absurd c d,fun _ _=>rfl,fun _ d=>absurd he d⟩;obtain⟨rfl,rfl⟩:=t he;exact⟨_,_,_,_,_,[],[],rfl,⟨Zm _ _ _ _,Zm _ _ _ _,zs⟩,f,fun d=>absurd c d,fun _ g=>absurd g he,fun _ _=>rfl⟩;refine(Oq p ls la lc lo fuel w c).m ?_;rintro e w' ⟨rfl,f⟩;exact⟨_,_,_,_,_,[],[],rfl,⟨Zm _ _ _ _,Zm _ _ _ _,zs⟩,f,fun _=>rfl,fun n=>absurd n c,fun n=>absurd n c⟩
def bH(P:Prg):Prop:=∀(w:YW)(c p:Nat) (l:YL) (en ce l1 l2 l3 l4 fuel:Int),P.Env w->P.CodeIs w c l en ce->yX l->0<=en/\en < l.length->0<=ce/\ce<=1000->-3000 < fuel/\fuel < 3000 ->
  Calls prog 23 #[A (O ⟨c,0,X⟩),Ag #[I J l1,I J l2,I J l3,I J l4],I J fuel] w fun e w'=>∃er vS vC out st ls lc,e=Rt (xX er vS vC out st)/\xe w' w.heap.size vS vC ls lc/\(ls.length<=1000/\lc.length<=1000/\∀j,vS.ownBlock=O j->vC.ownBlock≠O j)/\Below w.heap.size w w'/\kY p l en ce l1 l2 l3 l4 fuel (er,out,st,ls,lc)
theorem mv(er:Int)(ls lc:YI)(out:YB):cj er er ls ls lc lc out out=Y:=by simp[cj]
end Go.Proofs.YtmeiikjpaepogaaGreatDoor
