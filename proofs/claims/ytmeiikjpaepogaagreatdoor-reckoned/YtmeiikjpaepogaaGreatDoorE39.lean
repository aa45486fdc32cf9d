/- The program's options: Fold: withoutIdleJumps. -/
import Derived.Test.YtmeiikjpaepogaaGreatDoorE38
import Derived.BigQuiet
import Derived.Test.YtmeiikjpaepogaaGreatDoorE33
import Derived.Test.YtmeiikjpaepogaaGreatDoorE37
import Derived.Test.YtmeiikjpaepogaaGreatDoorE35
set_option maxRecDepth 100000
set_option maxHeartbeats 16000000
namespace Go.Proofs.YtmeiikjpaepogaaGreatDoor
open Go Go.RowKit
theorem eql_instr (a b c d:Int) (w:World):(binOp .eql 65 (.agg #[.int .i64 a,.int .i64 b]) (.agg #[.int .i64 c,.int .i64 d])).run Tryz.prog w=.ok (.bool ((a == c)&&(b == d))) w:=by
  have hu:Tryz.prog.underlying 65=some (.struct (Tryz.prog.fieldsOf 65)):=by kernel_rfl
  have hp:Tryz.prog.stoodInHeld 65=false:=by kernel_rfl
  have hf : (Tryz.prog.fieldsOf 65).toList.map (fun f => (decide (f.name = "_"), f.type, f.offset)) = [(false, 3, 0), (false, 2, 1)] := by kernel_rfl
  rw[run_eql_struct,run_equalIn_agg _ _ _ _ _ hu hp]
  generalize (Tryz.prog.fieldsOf 65).toList=fs at hf
  obtain⟨f,r,rfl⟩:∃ f r,fs=f :: r:=by cases fs with|nil=>simp at hf|cons f r=>exact⟨f,r,rfl⟩
  obtain⟨g,r,rfl⟩:∃ f s,r=f :: s:=by cases r with|nil=>simp at hf|cons f r=>exact⟨f,r,rfl⟩
  obtain rfl:r=[]:=by cases r with|nil=>rfl|cons f r=>simp at hf
  simp only[List.map_cons,List.map_nil,List.cons.injEq,Prod.mk.injEq,and_true,decide_eq_false_iff_not]at hf
  obtain⟨⟨hn1,ht1,ho1⟩,hn2,ht2,ho2⟩:=hf
  have p1:=part_int f.type #[.int .i64 a,.int .i64 b] f.offset (.int .i64 a) (by rw[ho1];rfl) (Or.inl ht1) w
  have p2:=part_int f.type #[.int .i64 c,.int .i64 d] f.offset (.int .i64 c) (by rw[ho1];rfl) (Or.inl ht1) w
  have p3:=part_int g.type #[.int .i64 a,.int .i64 b] g.offset (.int .i64 b) (by rw[ho2];rfl) (Or.inr ht2) w
  have p4:=part_int g.type #[.int .i64 c,.int .i64 d] g.offset (.int .i64 d) (by rw[ho2];rfl) (Or.inr ht2) w
  have e1:(Op.equalIn 9999 f.type (.int .i64 a) (.int .i64 c)).run Tryz.prog w=.ok (a == c) w:=run_equalIn_int w 9998 f.type .i64 .i64 a c (by rw[ht1];exact Tryz.underlying3)
  have e2:(Op.equalIn 9999 g.type (.int .i64 b) (.int .i64 d)).run Tryz.prog w=.ok (b == d) w:=run_equalIn_int w 9998 g.type .i64 .i64 b d (by rw[ht2];exact Tryz.underlying2)
  simp only[Op.eqFields,hn1,hn2,ne_eq,not_false_eq_true,if_true,Sem.run_bind,p1,p2,p3,p4,e1,e2,Result.andThen_ok,Sem.run_ite,Sem.run_pure]
  cases hac:(a == c)<;>cases hbd:(b == d)<;>simp
theorem withoutIdleJumps_any (ao:Option Addr) (c en:Nat) (ce:Int) (l:List (Int×Int)) (w:World) (hin:InL w ao l) (hp:PrOk (l,en)) :
    Calls Tryz.prog 81 #[.agg #[.slice ao l.length c,.int .i64 en,.int .i64 ce]] w (ProgOut w (joinedS l.length en ((blocksS l en).map idleS)) ce):=by
  have hw2:=below_box2 w (.cells #[.slice ao l.length c,.int .i64 en,.int .i64 ce] 73) (.cells #[.slice none 0 0,.int .i64 0,.int .i64 0] 73)
  have hP:Blk ((w.alloc (.cells #[.slice ao l.length c,.int .i64 en,.int .i64 ce] 73)).alloc (.cells #[.slice none 0 0,.int .i64 0,.int .i64 0] 73)) w.heap.size #[.slice ao l.length c,.int .i64 en,.int .i64 ce] 73:=(Blk.new w _ _).alloc _
  have hR:=blk_two w (.cells #[.slice ao l.length c,.int .i64 en,.int .i64 ce] 73) #[.slice none 0 0,.int .i64 0,.int .i64 0] 73
  have hsz2:((w.alloc (.cells #[.slice ao l.length c,.int .i64 en,.int .i64 ce] 73)).alloc (.cells #[.slice none 0 0,.int .i64 0,.int .i64 0] 73)).heap.size=w.heap.size+2:=by simp
  have hent:en<l.length:=hp.entry
  have hsm:l.length≤5000:=hp.small
  have hfine:=blocks_fine (l:=l) (en:=en)
  have hflat:=hfine.flat
  rw[List.take_length]at hflat
  have HBO:=V (blocksOf_any ao c en ce l _ (hin.below hw2) (by omega) hent hp.names)
  have HMEM:Hid (∀ b∈blocksS l en,∀ x∈b.2,x∈l):=fun b hb x hx=>by rw[← hflat];exact List.mem_flatMap.2 ⟨b,hb,hx⟩
  have HROW:Hid (∀ b∈blocksS l en,b.2.length≤5000):=fun b hb=>Nat.le_trans (hfine.row hb) hsm
  have HLOW:=V hfine.low
  have hbl:(blocksS l en).length≤l.length:=hfine.len
  have HP:=V hP
  have HR:=V hR
  have HW2:=V hw2
  have HPR:=V hp
  have HSZ2:=V hsz2
  have HNAM:Hid (∀ b∈(blocksS l en).map idleS,∀ x∈b.2,namesS x.1=true→0≤x.2∧x.2<l.length):=fun b hb x hx hn=>by
    obtain⟨b',hb',rfl⟩:=List.mem_map.1 hb
    refine hp.names x (U HMEM b' hb' x ?_) hn
    unfold idleS at hx
    split at hx
    · exact List.dropLast_subset _ hx
    · exact hx
  have HFL:Hid (((blocksS l en).flatMap (·.2)).length≤5000):=by rw[hflat];exact hsm
  have HFULL:=V hfine.full
  generalize hbs:blocksS l en=bs at *
  clear hw2 hP hR hp hfine hflat hin hsz2 hbs
  go_enter Tryz.func81,Tryz.ntmps81
  go_wp2_with fail
  generalize ((w.alloc (.cells #[.slice ao l.length c,.int .i64 en,.int .i64 ce] 73)).alloc (.cells #[.slice none 0 0,.int .i64 0,.int .i64 0] 73))=W1 at *
  refine (U HBO).mono ?_
  rintro e W2 ⟨lg,lc,rs,rfl,hbk,hrs,hb2⟩
  have hlen:rs.length=bs.length:=by rw[← hrs,List.length_map]
  have hlgs:=hbk.lt
  have HBK:=V hbk
  have HRS:=V hrs
  have HB2:=V hb2
  have HLEN:=V hlen
  obtain⟨m,hm⟩:∃ m,m=rs.length:=⟨_,rfl⟩
  rw[← hm]at hlen ⊢
  have HM:=V hm
  have hm5:m≤5000:=by omega
  have hmI:(m:Int)≤5000:=by omega
  have HLG:Hid (W1.heap.size≤lg):=hlgs.2
  clear hbk hrs hb2 HBO hm hlen hlgs
  go_wp2_with fail
  go_loopw [11] (fun i wr=>∃ (k:Nat) (rs':List LBl),i=.int .i64 k∧k≤m∧rs'.length=m∧BlksAt W1.heap.size wr lg lc rs'∧rs'.map LBl.blo=mapTo idleS bs k∧Below W1.heap.size W1 wr) (fun i _=>m-(intOf i).toNat)
  case atStart=>exact⟨0,rs,rfl,Nat.zero_le _,(U HM).symm,U HBK,by rw[mapTo_zero];exact U HRS,U HB2⟩
  case round =>
    obtain⟨k,rs',rfl,hk,hl',hbk,hmap,hbw⟩:=hrel
    have HBK':=V hbk
    have HMAP:=V hmap
    have HBW:=V hbw
    have HL':=V hl'
    by_cases hlt:k<m
    · obtain⟨r,hr⟩:∃ r,rs'[k]? = some r:=⟨_,List.getElem?_eq_getElem (by omega)⟩
      have hkb:k<bs.length:=by have:=U HLEN;have:=U HM;omega
      have hrb:bs[k]? = some r.blo:=by
        rw[← mapTo_at idleS bs k hkb,← hmap,List.getElem?_map,hr]
        rfl
      have hrm:=List.mem_of_getElem? hrb
      obtain⟨e1,e2,hinr,hcapr⟩:=hbk.cells hr
      have hfree:=own_free hbk.1
      have hlgl:=hbk.lt.1
      have hltI:(k:Int)<m:=by omega
      obtain⟨rf,ra,rc,rl⟩:=r
      simp only[LBl.blo]at e1 e2 hinr hcapr hrb hrm
      have hrl:rl.length≤5000:=U HROW _ hrm
      have hrn:rf<l.length:=U HLOW _ hrm
      have hfull:=List.length_pos_iff.2 (U HFULL _ hrm)
      simp only at hfull
      obtain⟨q,hq⟩:∃ q,q=rl.length-1:=⟨_,rfl⟩
      obtain⟨x,hx⟩:∃ x,rl[q]? = some x:=⟨_,List.getElem?_eq_getElem (by omega)⟩
      obtain⟨g,off,rfl,hgl,d1,d2⟩:=in_at hinr hx
      obtain⟨x1,x2⟩:=x
      simp only at d1 d2
      have hlast:rl.getLast? = some (x1,x2):=by rw[List.getLast?_eq_getElem?,← hq];exact hx
      have hsub:IntKind.i64.wrap ((rl.length:Int)-1)=q:=by rw[IntKind.wrap_i64];omega
      have hql:(q:Int)<rl.length:=by omega
      have hqc:(q:Int)≤rc:=by omega
      have hrI:(rl.length:Int)≤5000:=by omega
      have hrfI:(rf:Int)≤5000:=by omega
      have hadd:IntKind.i64.wrap ((rf:Int)+rl.length)=(rf:Int)+rl.length:=by rw[IntKind.wrap_i64];omega
      have HNX:=V (mapTo_next idleS hrb)
      have hbx:=below_box wr (.cells #[.int .i64 rf,.slice (some ⟨g,off,none⟩) rl.length rc] 161)
      have HBB:=V (hbk.below hbx)
      have hdl:rl.dropLast.length=q:=by rw[List.length_dropLast,hq]
      have hdt:rl.dropLast=rl.take q:=by rw[List.dropLast_eq_take,hq]
      have HSET:=V ((hbk.below hbx).set hr (some ⟨g,off,none⟩) rc rl.dropLast (by rw[hdt];exact InL.take (hinr.below hbx) q) (by rw[hdl];omega) (fun g' off' e=>by
        have h1:=hbk.2 _ (List.mem_of_getElem? hr)
        rcases h1.2 with h2|⟨g2,off2,h2,h3,h4,_⟩
        · simp only at h2
          rw[h2]at hfull
          simp at hfull
        · simp only at h2
          rw[e]at h2
          simp only[Option.some.injEq,Addr.mk.injEq]at h2
          omega))
      rw[hdl]at HSET
      have HAT:Hid ((mapTo idleS bs k)[k]? = some (rf,rl)):=by
        show _=_
        rw[mapTo_at _ _ _ hkb]
        exact hrb
      have HBWX:Hid (Below W1.heap.size W1 (wr.alloc (.cells #[.int .i64 rf,.slice (some ⟨g,off,none⟩) rl.length rc] 161))):=hbw.trans (hbx.mono hbw.size)
      have hbb:=Blk.new wr #[.int .i64 rf,.slice (some ⟨g,off,none⟩) rl.length rc] 161
      have hcbb:=hbb.cell
      have hlbb:=hbb.lt
      have hkeep:=hbk.below hbx
      have hck:=(hkeep.cells hr).2.1
      have hfk:=own_free hkeep.1
      have hlk:=hkeep.lt.1
      simp only at hck
      have HLAST:=V hlast
      have HDL:=V hdl
      clear hbk hmap hbw hrb hrm hinr hcapr hr hl' hx hlast hbx hdl hdt hq hbb hkeep hfull
      have heq:=eql_instr x1 x2 1 ((rf:Int)+rl.length)
      have hgd:=guard_instr
      have HBQ:Hid ((((x1 == 1)&&(x2 == ((rf:Int)+rl.length)))=true)↔rl.getLast? = some (1,((rf+rl.length:Nat):Int))):=by
        show _↔_
        rw[U HLAST]
        simp
      generalize hbq:((x1 == 1)&&(x2 == ((rf:Int)+rl.length)))=bq at *
      clear hbq
      have HWD:Hid (∀ n,Below W1.heap.size W1 ((wr.alloc (.cells #[.int .i64 rf,.slice (some ⟨g,off,none⟩) rl.length rc] 161)).drewN n)):=fun n=>below_drawn (U HBWX) n
      have HDW:Hid (∀ n,BlksAt W1.heap.size ((wr.alloc (.cells #[.int .i64 rf,.slice (some ⟨g,off,none⟩) rl.length rc] 161)).drewN n) lg lc rs'):=fun n=>U HBB
      have HDS:Hid (∀ n,BlksAt W1.heap.size (((wr.alloc (.cells #[.int .i64 rf,.slice (some ⟨g,off,none⟩) rl.length rc] 161)).drewN n).setCell ⟨lg,k * 2+1,none⟩ (.slice (some ⟨g,off,none⟩) q rc)) lg lc (rs'.set k (rf,some ⟨g,off,none⟩,rc,rl.dropLast))):=fun n=>U HSET
      go_wp2_with fail
      go_quiet (fail)
      cases bq with
      | true =>
        go_wp2_with fail
        go_roundw
        case rel =>
          refine⟨k+1,rs'.set k (rf,some ⟨g,off,none⟩,rc,rl.dropLast),by go_num,by omega,by rw[List.length_set];exact U HL',U HDS _,?_,(U HWD _).setCell (U HLG) _⟩
          have e:idleS (rf,rl)=(rf,rl.dropLast):=by unfold idleS;rw[if_pos ((U HBQ).1 rfl)]
          rw[List.map_set,U HMAP,U HNX,e]
          rfl
        case measure=>simp[intOf];omega
      | false =>
        go_wp2_with fail
        go_roundw
        case rel =>
          refine⟨k+1,rs',by go_num,by omega,U HL',U HDW _,?_,U HWD _⟩
          have e:idleS (rf,rl)=(rf,rl):=by unfold idleS;rw[if_neg (fun h=>by have:=(U HBQ).2 h;cases this)]
          rw[U HNX,e,U HMAP]
          exact (set_same (U HAT)).symm
        case measure=>simp[intOf];omega
    · have hkk:k=m:=by omega
      subst hkk
      have hmb:k=bs.length:=by rw[U HM];exact U HLEN
      have hmap2:rs'.map LBl.blo=bs.map idleS:=by rw[hmap,hmb,mapTo_all]
      have hPw:=Blk.below (U HP) hbw (U HP).lt
      have hRw:=Blk.below (U HR) hbw (U HR).lt
      have HJO:=V (joined_any W1.heap.size ao c l.length en ce lg lc rs' (bs.map idleS) wr hbk hmap2 (fun b hb=>by
        obtain⟨b',hb',rfl⟩:=List.mem_map.1 hb
        have e:(idleS b').1=b'.1:=by first|rfl|(unfold unreachS;split<;>rfl)|(unfold idleS;split<;>rfl)
        rw[e]
        exact U HLOW b' hb') (U HNAM) hent (by omega) (by
        have:=map_flat_le idleS (fun b=>by unfold idleS;split<;>simp) bs
        have h2:=U HFL
        omega) (by omega))
      rw[hl']at HJO
      have hcp:=hPw.cell
      have hlp:=hPw.lt
      have HRW:=V hRw
      clear hbk hmap hmap2 hPw hRw hl' hmb hbw
      generalize hq:joinedS l.length en (bs.map idleS)=q at *
      go_wp2_with fail
      refine (U HJO).mono ?_
      rintro e w4 ⟨a4,c4,rfl,ho4,hb4⟩
      have hR4:=Blk.below (U HRW) hb4 (U HRW).lt
      have hcr:=hR4.cell
      have hfr:=hR4.free
      have hlr:=hR4.lt
      have HR4:=V hR4
      have HO4:=V ho4
      have HB4:=V hb4
      clear ho4 hb4 HJO hR4 HRW hcp hlp
      go_wp2_with fail
      refine bodyPost_ret (results_row3 (P:=Tryz.prog) rfl _ _ (w.heap.size+1) 73 _ (0,0) _ rfl (triple_set (U HR4) rfl) Tryz.underlying73 rfl Tryz.sizeProgram) rfl ?_
      have hsz:=U HSZ2
      have hww:w.heap.size≤wr.heap.size:=by have:=(U HBW).size;omega
      have hn:(Value.slice a4 q.1.length c4).ownBlock≠some (w.heap.size+1):=fun e=>row_not_blk (U HR4) (U HO4) (by decide) e
      have hb5:Below w.heap.size w w4:=(U HW2).trans (((U HBW).trans ((U HB4).mono (U HBW).size)).mono (by omega))
      try rw[hq]
      refine⟨a4,c4,rfl,?_,((hb5.setCell (by simp) _).setCell (by simp) _).setCell (by simp) _⟩
      exact ownsRow_base (ownsRow_far (ownsRow_far (ownsRow_far (U HO4) hn _) hn _) hn _) hww
def progLen (w:World) (b:Nat):Nat:=match w.cell? ⟨b,0,none⟩ with|some (.slice _ n _)=>n|_=>0
structure FoldRun (w0:World) (ce:Int) (res:PrS) (fb tb rb:Nat) (bs:List (Nat×Nat)) (w:World) (p:PrS) (a:Option Addr) (k n:Nat):Prop where
  box:Blk w w0.heap.size #[.slice a p.1.length k,.int .i64 p.2,.int .i64 ce] 73
  out:Blk w (w0.heap.size+1) #[.slice none 0 0,.int .i64 0,.int .i64 0] 73
  list:InL w a p.1
  off:∀ g o,a=some ⟨g,o,none⟩→g≠w0.heap.size∧g≠w0.heap.size+1
  ok:PrOk p
  fuel:p.1.length<n
  go:foldGo n p=res
  fold:FolderX w fb tb rb bs
  below:Below w0.heap.size w0 w
theorem fold_any (hch : ChainedOk) (ao : Option Addr) (c en : Nat) (ce : Int) (l : List (Int × Int)) (w : World) (ht : Lib.TabIs Tryz.prog w "internal/strconv.uint64pow10" .u64 Lib.pow10Tab) (hin : InL w ao l) (hp : PrOk (l, en)) :
    Calls Tryz.prog 54 #[.agg #[.slice ao l.length c,.int .i64 en,.int .i64 ce]] w (ProgOut w (foldGo (l.length+1) (l,en)) ce):=by
  have hb0:=below_box2 w (.cells #[.slice ao l.length c,.int .i64 en,.int .i64 ce] 73) (.cells #[.slice none 0 0,.int .i64 0,.int .i64 0] 73)
  have hP:Blk ((w.alloc (.cells #[.slice ao l.length c,.int .i64 en,.int .i64 ce] 73)).alloc (.cells #[.slice none 0 0,.int .i64 0,.int .i64 0] 73)) w.heap.size #[.slice ao l.length c,.int .i64 en,.int .i64 ce] 73:=(Blk.new w _ _).alloc _
  have hR:=blk_two w (.cells #[.slice ao l.length c,.int .i64 en,.int .i64 ce] 73) #[.slice none 0 0,.int .i64 0,.int .i64 0] 73
  have HNF:=V (newFolder_any ((w.alloc (.cells #[.slice ao l.length c,.int .i64 en,.int .i64 ce] 73)).alloc (.cells #[.slice none 0 0,.int .i64 0,.int .i64 0] 73)))
  have HTA:=V (Lib.tabBelow_of_tabIs ht)
  have HB0:=V hb0
  have HP:=V hP
  have HR:=V hR
  have HIN:=V hin
  have HPR:=V hp
  generalize hres:foldGo (l.length+1) (l,en)=res
  have HRES:=V hres
  have hoff:∀ g o,ao=some ⟨g,o,none⟩→g<w.heap.size∨l=[]:=fun g o e=>by
    rcases hin with h|⟨g',o',e',hl,_⟩
    · exact Or.inr h
    · rw[e]at e'
      simp only[Option.some.injEq,Addr.mk.injEq]at e'
      omega
  have hl0:l≠[]:=by intro e;have:=hp.entry;rw[e]at this;simp at this
  have HOFF:Hid (∀ g o,ao=some ⟨g,o,none⟩→g≠w.heap.size∧g≠w.heap.size+1):=fun g o e=>by
    rcases hoff g o e with h|h
    · omega
    · exact absurd h hl0
  clear hb0 hP hR hin hp ht hres hoff hl0
  go_enter Tryz.func54,Tryz.ntmps54
  go_wp2_with fail
  generalize (w.alloc (.cells #[.slice ao l.length c,.int .i64 en,.int .i64 ce] 73)).alloc (.cells #[.slice none 0 0,.int .i64 0,.int .i64 0] 73)=W1 at *
  refine (U HNF).mono ?_
  rintro e w2 ⟨fb,tb,rb,bs,rfl,hfx,hb2⟩
  have HST:Hid (FoldRun w ce res fb tb rb bs w2 (l,en) ao c (l.length+1)):=⟨(U HP).below hb2 (U HP).lt,(U HR).below hb2 (U HR).lt,((U HIN).below (U HB0)).below hb2,U HOFF,U HPR,Nat.lt_succ_self _,U HRES,hfx,(U HB0).trans (hb2.mono (U HB0).size)⟩
  clear hfx hb2 HNF HP HR HIN HOFF HPR
  go_wp2_with fail
  go_loopw [4] (fun _ wr=>∃ (p:PrS) (a:Option Addr) (k n:Nat),FoldRun w ce res fb tb rb bs wr p a k n) (fun _ wr=>progLen wr w.heap.size)
  case atStart=>exact⟨(l,en),ao,c,_,U HST⟩
  case round =>
    obtain⟨p,a,k,n,hfr⟩:=hrel
    obtain⟨l',en'⟩:=p
    have HFR:=V hfr
    have hcb:=hfr.box.cell
    have hlb:=hfr.box.lt
    simp only at hcb
    have hln:=hfr.fuel
    simp only at hln
    have HPL:Hid (progLen wr w.heap.size=l'.length):=by
      show progLen wr w.heap.size=_
      unfold progLen
      rw[hcb]
      rfl
    have hok:=once_ok hfr.ok
    have h5:l'.length≤5000:=hfr.ok.small
    obtain⟨p1,hp1⟩:∃ p1,stage1 (l',en')=p1:=⟨_,rfl⟩
    obtain⟨p2,hp2⟩:∃ p2,stage2 p1=p2:=⟨_,rfl⟩
    obtain⟨p3,hp3⟩:∃ p3,stage3 p2=p3:=⟨_,rfl⟩
    obtain⟨p4,hp4⟩:∃ p4,stage4 p3=p4:=⟨_,rfl⟩
    have hfo:foldOnce (l',en')=p4:=by unfold foldOnce;rw[hp1,hp2,hp3,hp4]
    have o1:PrOk p1:=by rw[← hp1];exact hok.p1
    have o2:PrOk p2:=by rw[← hp2,← hp1];exact hok.p2
    have o3:PrOk p3:=by rw[← hp3,← hp2,← hp1];exact hok.p3
    have o4:PrOk p4:=by rw[← hfo];exact hok.p4
    have hle4:p4.1.length≤l'.length:=by have:=once_le (l',en');rw[hfo]at this;exact this
    have HFO:Hid (Calls Tryz.prog 84 #[.pointer (some ⟨fb,0,none⟩),.agg #[.slice a l'.length k,.int .i64 en',.int .i64 ce]] wr (ProgOut wr p1 ce)):=by
      rw[← hp1]
      exact folded_any fb tb rb a k en' ce l' wr (hfr.fold.isAt hch (U HTA wr hfr.below)) hfr.list hfr.ok
    have HS2:Hid (∀ (g c:Nat) (W:World),OwnI 0 W (.slice (some ⟨g,0,none⟩) p1.1.length c) p1.1→Calls Tryz.prog 83 #[.agg #[.slice (some ⟨g,0,none⟩) p1.1.length c,.int .i64 p1.2,.int .i64 ce]] W (ProgOut W p2 ce)):=fun g c W ho=>by
      rw[← hp2]
      exact straightened_any g c p1.2 ce p1.1 W ho o1
    have HS3:Hid (∀ (a:Option Addr) (c:Nat) (W:World),InL W a p2.1→Calls Tryz.prog 82 #[.agg #[.slice a p2.1.length c,.int .i64 p2.2,.int .i64 ce]] W (ProgOut W p3 ce)):=fun a c W hi=>by
      rw[← hp3]
      exact withoutUnreached_any a c p2.2 ce p2.1 W hi o2
    have HS4:Hid (∀ (a:Option Addr) (c:Nat) (W:World),InL W a p3.1→Calls Tryz.prog 81 #[.agg #[.slice a p3.1.length c,.int .i64 p3.2,.int .i64 ce]] W (ProgOut W p4 ce)):=fun a c W hi=>by
      rw[← hp4]
      exact withoutIdleJumps_any a c p3.2 ce p3.1 W hi o3
    have hpos1:0<p1.1.length:=by have:=o1.entry;omega
    have HO4:=V o4
    have HGO:Hid (∃ m,n=m+1∧(if p4.1.length=l'.length then p4 else foldGo m p4)=res):=by
      obtain⟨m,rfl⟩:∃ m,n=m+1:=⟨n-1,by omega⟩
      refine⟨m,rfl,?_⟩
      have:=hfr.go
      rw[foldGo,hfo]at this
      exact this
    clear hfr hok hp1 hp2 hp3 hp4 hfo o1 o2 o3 o4
    have h45:(p4.1.length:Int)≤5000:=by omega
    have hl5:(l'.length:Int)≤5000:=by omega
    go_wp2_with fail
    refine (U HFO).mono ?_
    rintro e w3 ⟨a3,c3,rfl,ho3,hb3⟩
    obtain⟨g3,d3,e3,_,_⟩:=World.ownsRow.form ho3 hpos1
    simp only[Value.slice.injEq,true_and]at e3
    obtain⟨rfl,rfl⟩:=e3
    have HC2:=V (U HS2 g3 c3 w3 (ho3.base (Nat.zero_le _)))
    have HB3:=V hb3
    clear ho3 hb3 HFO HS2
    go_wp2_with fail
    refine (U HC2).mono ?_
    rintro e w4 ⟨a4,c4,rfl,ho4,hb4⟩
    have HC3:=V (U HS3 a4 c4 w4 ho4.isIn.1)
    have HB4:Hid (Below wr.heap.size wr w4):=(U HB3).trans (hb4.mono (U HB3).size)
    clear ho4 hb4 HC2 HS3 HB3
    go_wp2_with fail
    refine (U HC3).mono ?_
    rintro e w5 ⟨a5,c5,rfl,ho5,hb5⟩
    have HC4:=V (U HS4 a5 c5 w5 ho5.isIn.1)
    have HB5:Hid (Below wr.heap.size wr w5):=(U HB4).trans (hb5.mono (U HB4).size)
    clear ho5 hb5 HC3 HS4 HB4
    go_wp2_with fail
    refine (U HC4).mono ?_
    rintro e w6 ⟨a6,c6,rfl,ho6,hb6⟩
    have HB6:Hid (Below wr.heap.size wr w6):=(U HB5).trans (hb6.mono (U HB5).size)
    have hbx:=below_box w6 (.cells #[.slice a6 p4.1.length c6,.int .i64 p4.2,.int .i64 ce] 73)
    have hb7:=(U HB6).trans (hbx.mono (U HB6).size)
    have ho7:=OwnI.below ho6 hbx
    have hbb:=Blk.new w6 #[.slice a6 p4.1.length c6,.int .i64 p4.2,.int .i64 ce] 73
    have hpb7:=(U HFR).box.below hb7 (U HFR).box.lt
    have hrb7:=(U HFR).out.below hb7 (U HFR).out.lt
    have HFX7:=V ((U HFR).fold.below hb7)
    have HB7:Hid (Below w.heap.size w (w6.alloc (.cells #[.slice a6 p4.1.length c6,.int .i64 p4.2,.int .i64 ce] 73))):=(U HFR).below.trans (hb7.mono (U HFR).below.size)
    have z1:=hbb.cell
    have z2:=hbb.lt
    have z3:=hpb7.cell
    have z4:=hpb7.free
    have z5:=hpb7.lt
    have z6:=hrb7.cell
    have z7:=hrb7.free
    have z8:=hrb7.lt
    simp only at z3
    have HO7:=V ho7
    have HPB7:=V hpb7
    have HRB7:=V hrb7
    have HW6:Hid (w.heap.size≤w5.heap.size):=by have:=(U HFR).below.size;have:=(U HB5).size;show _≤_;omega
    have hnpb:w.heap.size≠w6.heap.size:=by have:=(U HB6).size;have:=(U HFR).box.lt;omega
    have hnrb:w.heap.size+1≠w6.heap.size:=by have:=(U HB6).size;have:=(U HFR).out.lt;omega
    clear ho6 hb6 HC4 hbx hb7 ho7 hbb hpb7 hrb7 hcb hlb
    by_cases heq:p4.1.length=l'.length
    · have heqI:((p4.1.length:Int) == (l'.length:Int))=true:=by simp[heq]
      have hres:p4=res:=by
        obtain⟨m,_,h⟩:=U HGO
        rw[if_pos heq]at h
        exact h
      subst hres
      have hls:l'.length=p4.1.length:=heq.symm
      clear heq
      go_wp2_with fail
      refine bodyPost_ret (results_row3 (P:=Tryz.prog) rfl _ _ (w.heap.size+1) 73 _ (0,0) _ rfl (triple_set (U HRB7) rfl) Tryz.underlying73 rfl Tryz.sizeProgram) rfl ?_
      have hn7:(Value.slice a6 p4.1.length c6).ownBlock≠some (w.heap.size+1):=fun e=>row_not_blk (U HRB7) (U HO7) (by decide) e
      refine⟨a6,c6,rfl,?_,(((U HB7).setCell (by simp) _).setCell (by simp) _).setCell (by simp) _⟩
      exact ownsRow_base (ownsRow_far (ownsRow_far (ownsRow_far (U HO7) hn7 _) hn7 _) hn7 _) (U HW6)
    · have heqI:((p4.1.length:Int) == (l'.length:Int))=false:=by simp;omega
      have HLT:Hid (p4.1.length<l'.length):=by show _<_;omega
      go_wp2_with fail
      have hnp:(Value.slice a6 p4.1.length c6).ownBlock≠some w.heap.size:=fun e=>row_not_blk (U HPB7) (U HO7) (by decide) e
      have hnr:(Value.slice a6 p4.1.length c6).ownBlock≠some (w.heap.size+1):=fun e=>row_not_blk (U HRB7) (U HO7) (by decide) e
      have b1:=(U HPB7).set 0 (.slice a6 p4.1.length c6)
      have b2:=b1.set 1 (.int .i64 p4.2)
      have HNEW:Hid (∃ m,FoldRun w ce res fb tb rb bs ((((w6.alloc (.cells #[.slice a6 p4.1.length c6,.int .i64 p4.2,.int .i64 ce] 73)).setCell ⟨w.heap.size,0,none⟩ (.slice a6 p4.1.length c6)).setCell ⟨w.heap.size,1,none⟩ (.int .i64 p4.2)).setCell ⟨w.heap.size,2,none⟩ (.int .i64 ce)) p4 a6 c6 m):=by
        obtain⟨m,hm,h⟩:=U HGO
        rw[if_neg heq]at h
        have hl:=U HLT
        refine⟨m,⟨triple_set (U HPB7) rfl,(((U HRB7).far (a:=⟨w.heap.size,0,none⟩) (by simp) _).far (a:=⟨w.heap.size,1,none⟩) (by simp) _).far (a:=⟨w.heap.size,2,none⟩) (by simp) _,?_,?_,U HO4,by omega,h,?_,?_⟩⟩
        · exact (OwnI.isIn (ownsRow_far (ownsRow_far (ownsRow_far (U HO7) (a:=⟨w.heap.size,0,none⟩) hnp _) (a:=⟨w.heap.size,1,none⟩) hnp _) (a:=⟨w.heap.size,2,none⟩) hnp _)).1
        · intro g o e
          subst e
          exact⟨fun e=>hnp (by rw[← e];rfl),fun e=>hnr (by rw[← e];rfl)⟩
        · exact (((U HFX7).far (U HPB7) 0 _).far b1 1 _).far b2 2 _
        · exact (((U HB7).setCell (Nat.le_refl _) _).setCell (Nat.le_refl _) _).setCell (Nat.le_refl _) _
      obtain⟨m,hnew⟩:=U HNEW
      have HNEW2:=V hnew
      clear hnew b1 b2
      go_roundw
      case rel=>exact⟨p4,a6,c6,m,U HNEW2⟩
      case measure =>
        rw[U HPL]
        have h1:=(U HNEW2).box.cell 0
        unfold progLen
        rw[h1]
        exact U HLT
def OwnP (B:Nat) (w:World) (g:Nat) (b:List Pc):Prop:=w.ownsRow B 211 3 (.slice (some ⟨g,0,none⟩) b.length b.length) b.length (pieceCells b)
theorem zeros_piece (n:Nat):pieceCells (List.replicate n ((0:Int),(0:Int),(0:Int)))=List.replicate (n * 3) (Value.int .i64 0):=by
  induction n with
  | zero=>rfl
  | succ n ih =>
    have e:(n+1) * 3=n * 3+1+1+1:=by omega
    rw[e,List.replicate_succ,List.replicate_succ,List.replicate_succ,List.replicate_succ,← ih]
    rfl
theorem made3 (n:Nat):madeCells #[.int .i64 0,.int .i64 0,.int .i64 0] (n * 3)=(pieceCells (List.replicate n ((0:Int),(0:Int),(0:Int)))).toArray:=by
  rw[zeros_piece]
  apply Array.ext'
  unfold madeCells
  apply List.ext_getElem?
  intro i
  simp only[Array.toList_map,Array.toList_range,List.getElem?_map,List.getElem?_replicate]
  by_cases h:i<n * 3
  · rw[List.getElem?_range h,if_pos h]
    have:i % 3=0∨i % 3=1∨i % 3=2:=by omega
    rcases this with e|e|e<;>simp[e]
  · rw[List.getElem?_eq_none (by simp;omega),if_neg h]
    rfl
theorem run_makeP (n:Nat) (hn:n≤1000000000) (w:World) :
    (Instr.makeSlice 209 (.int .i64 (n:Int)) (.int .i64 (n:Int))).run Tryz.prog w=.ok (.slice (some ⟨w.heap.size,0,none⟩) n n) (w.alloc (.cells (madeCells #[.int .i64 0,.int .i64 0,.int .i64 0] (n * 3)) 211)):=by
  obtain⟨iI,hiI,hzI0,hzI1,hzI2⟩:=info_parts Tryz.infoPiece
  have hr:=run_make (P:=Tryz.prog) w 209 211 iI _ Tryz.underlying209 hiI hzI0 .i64 .i64 n n (by omega) (Int.le_refl _) (by rw[hzI2];omega) (by omega)
  simp only[Int.toNat_natCast,hzI1]at hr
  exact hr
theorem made_pieces (w:World) (n:Nat) (hn:n≤1000000000):OwnP w.heap.size (w.alloc (.cells (madeCells #[.int .i64 0,.int .i64 0,.int .i64 0] (n * 3)) 211)) w.heap.size (List.replicate n ((0:Int),(0:Int),(0:Int))):=by
  rw[made3]
  have hl:=pieceCells_length (List.replicate n ((0:Int),(0:Int),(0:Int)))
  rw[List.length_replicate]at hl
  refine⟨by rw[hl,List.length_replicate],Or.inr ⟨w.heap.size,n,_,by simp,Nat.le_refl _,Blk.new w _ _,by simp,by unfold maxLen;omega,by simp[hl],?_⟩⟩
  rw[List.length_replicate]
  exact List.take_of_length_le (by rw[hl];exact Nat.le_refl _)
theorem pieceCells_at (l:List Pc) (i:Nat) (x:Pc) (h:l[i]? = some x):(pieceCells l)[i * 3]? = some (.int .i64 x.1)∧(pieceCells l)[i * 3+1]? = some (.int .i64 x.2.1)∧(pieceCells l)[i * 3+2]? = some (.int .i64 x.2.2):=by
  induction l generalizing i with
  | nil=>simp at h
  | cons y l ih =>
    cases i with
    | zero=>simp at h;subst h;simp[pieceCells]
    | succ i =>
      simp only[List.getElem?_cons_succ]at h
      have:=ih i h
      simp only[pieceCells,List.flatMap_cons]at *
      have e1:(i+1) * 3=i * 3+3:=by omega
      rw[e1]
      exact this
theorem piece_set3 (l:List Pc) (k:Nat) (x:Pc) (hx:l[k]? = some x) (a b c:Int):(((pieceCells l).set (k * 3) (.int .i64 a)).set (k * 3+1) (.int .i64 b)).set (k * 3+2) (.int .i64 c)=pieceCells (l.set k (a,b,c)):=by
  induction l generalizing k with
  | nil=>simp at hx
  | cons y l ih =>
    cases k with
    | zero=>rfl
    | succ k =>
      have e:(k+1) * 3=k * 3+1+1+1:=by omega
      rw[e]
      have:=ih k (by simpa using hx)
      unfold pieceCells at this ⊢
      simp only[List.flatMap_cons,List.set_cons_succ]
      rw[← this]
      rfl
theorem OwnP.set {B:Nat} {w:World} {g:Nat} {b:List Pc} (h:OwnP B w g b) (j:Nat) (hj:j<b.length) (x y z:Int):OwnP B (((w.setCell ⟨g,j * 3,none⟩ (.int .i64 x)).setCell ⟨g,j * 3+1,none⟩ (.int .i64 y)).setCell ⟨g,j * 3+2,none⟩ (.int .i64 z)) g (b.set j (x,y,z)):=by
  unfold OwnP at h ⊢
  rw[List.length_set]
  have:=own_set (own_set (own_set h (j * 3) (.int .i64 x)) (j * 3+1) (.int .i64 y)) (j * 3+2) (.int .i64 z)
  rw[piece_set3 b j _ (List.getElem?_eq_getElem hj)]at this
  exact this
theorem OwnP.cell {B:Nat} {w:World} {g:Nat} {b:List Pc} (h:OwnP B w g b) {j:Nat} {v:Pc} (hv:b[j]? = some v):w.cell? ⟨g,j * 3,none⟩=some (.int .i64 v.1)∧w.cell? ⟨g,j * 3+1,none⟩=some (.int .i64 v.2.1)∧w.cell? ⟨g,j * 3+2,none⟩=some (.int .i64 v.2.2):=by
  unfold OwnP at h
  have hj:=(List.getElem?_eq_some_iff.1 hv).1
  obtain⟨e1,e2,e3⟩:=pieceCells_at b j v hv
  exact⟨by rw[own_cell h _ (by omega)];exact e1,by rw[own_cell h _ (by omega)];exact e2,by rw[own_cell h _ (by omega)];exact e3⟩
theorem OwnP.free {B:Nat} {w:World} {g:Nat} {b:List Pc} (h:OwnP B w g b) (j:Nat):w.frozen? ⟨g,j,none⟩=false:=own_free h j
theorem OwnP.lt {B:Nat} {w:World} {g:Nat} {b:List Pc} (h:OwnP B w g b):g<w.heap.size∧B≤g:=ownsRow_lt h (k:=g) rfl
theorem OwnP.below {B:Nat} {w w':World} {g:Nat} {b:List Pc} (h:OwnP B w g b) (hb:Below w.heap.size w w'):OwnP B w' g b:=(LawStill.ofBelow hb).row h
def bestL (row:List (Int×Int)) (j:Nat):List Pc:=List.replicate j ((0:Int),(0:Int),(0:Int))++(few (row.drop j)).map Prod.fst
def sizeL (row:List (Int×Int)) (j:Nat):List Int:=List.replicate j 0++sizesS (few (row.drop j))
theorem bestL_len (row:List (Int×Int)) (j:Nat) (h:j≤row.length):(bestL row j).length=row.length:=by
  unfold bestL
  rw[List.length_append,List.length_replicate,List.length_map,few_len,List.length_drop]
  omega
theorem sizeL_len (row:List (Int×Int)) (j:Nat) (h:j≤row.length):(sizeL row j).length=row.length+1:=by
  unfold sizeL sizesS
  rw[List.length_append,List.length_replicate,List.length_append,List.length_map,few_len,List.length_drop]
  simp
  omega
theorem rep_set {α:Type} (n:Nat) (z e:α) (t:List α):(List.replicate (n+1) z++t).set n e=List.replicate n z++e :: t:=by
  rw[List.replicate_succ',List.append_assoc,List.set_append_right _ _ (by simp)]
  simp
theorem bestL_set (row:List (Int×Int)) (i:Nat) (e:Pc):(bestL row (i+1)).set i e=List.replicate i ((0:Int),(0:Int),(0:Int))++e :: (few (row.drop (i+1))).map Prod.fst:=rep_set _ _ _ _
theorem sizeL_set (row:List (Int×Int)) (i:Nat) (e:Int):(sizeL row (i+1)).set i e=List.replicate i 0++e :: sizesS (few (row.drop (i+1))):=rep_set _ _ _ _
theorem few_done {row:List (Int×Int)} {i:Nat} {x:Int×Int} (hx:row[i]? = some x):bestL row i=(bestL row (i+1)).set i (bestTo x (row.drop (i+1)) (few (row.drop (i+1))) (piecesS (row.drop i)).length).1∧sizeL row i=(sizeL row (i+1)).set i (bestTo x (row.drop (i+1)) (few (row.drop (i+1))) (piecesS (row.drop i)).length).2:=by
  have hi:=(List.getElem?_eq_some_iff.1 hx).1
  have e:row.drop i=x :: row.drop (i+1):=by
    rw[List.drop_eq_getElem_cons hi,(List.getElem?_eq_some_iff.1 hx).2]
  rw[bestL_set,sizeL_set]
  unfold bestL sizeL
  rw[e]
  simp[few,sizesS]
end Go.Proofs.YtmeiikjpaepogaaGreatDoor
