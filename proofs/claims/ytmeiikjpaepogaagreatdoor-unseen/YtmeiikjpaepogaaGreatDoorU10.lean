/- The program's compiler: push; aim. -/
import Derived.Test.YtmeiikjpaepogaaGreatDoorU09
import Derived.Deep.CutRange
set_option maxRecDepth 100000
set_option maxHeartbeats 4000000
namespace Go.Proofs.YtmeiikjpaepogaaGreatDoor
open Go Go.RowKit
theorem Tryz.infoThing:(Tryz.prog.info? 235).map (fun i=>(i.zero,i.size,i.bytes))=some (some (.agg #[.nilFunc]),1,8):=by kernel_rfl
section
variable {B:Nat} {w w' w1:World} {x:CX} {st:RS} {s0:Int} {vd vm vo:Value} {fw fo:List Value}
theorem Cp.lts (h:Cp B w x st s0 vd vm vo fw fo):∀ b∈[x.b,x.r,x.d,x.m,x.mp],b<w.heap.size:=by
  intro b hb
  simp at hb
  rcases hb with rfl|rfl|rfl|rfl|rfl
  · exact h.blk.lt
  · exact h.rdr.lt
  · exact h.dp.lt
  · exact h.mn.lt
  · exact h.names.lt
theorem Cp.growO (h:Cp B w x st s0 vd vm vo fw fo) {f:Value} {g cap:Nat} (hg:w.grownBy w1 vo.ownBlock) (hown:w1.ownsRow B 235 1 (.slice (some ⟨g,0,none⟩) ((fw++fo).length+1) cap) ((fw++fo).length+1) ((fw++fo)++[f])) (hat:vo.ownBlock=some g∨g=w.heap.size)
    (o:ByteArray×Int×Int) (ho:ThingOk w x.b f o) (hlen:st.opens.length<4000) :
    Cp B (w1.setCell ⟨x.b,8,none⟩ (.slice (some ⟨g,0,none⟩) ((fw++fo).length+1) cap)) x (openS st o) s0 vd vm (.slice (some ⟨g,0,none⟩) ((fw++fo).length+1) cap) fw (fo++[f])∧BoxStill w (w1.setCell ⟨x.b,8,none⟩ (.slice (some ⟨g,0,none⟩) ((fw++fo).length+1) cap))∧Below B w (w1.setCell ⟨x.b,8,none⟩ (.slice (some ⟨g,0,none⟩) ((fw++fo).length+1) cap)):=by
  have hst:Still w (w1.setCell ⟨x.b,8,none⟩ (.slice (some ⟨g,0,none⟩) ((fw++fo).length+1) cap)) (fun k=>k=x.b∨vo.ownBlock=some k) :=
    Still.set (F:=fun k=>k=x.b∨vo.ownBlock=some k) (Still.grown (F:=fun k=>k=x.b∨vo.ownBlock=some k) (Still.refl w _) hg (fun k hk=>Or.inl (Or.inr hk))) (Or.inl (Or.inl rfl)) _ _
  have hbx:BoxStill w (w1.setCell ⟨x.b,8,none⟩ (.slice (some ⟨g,0,none⟩) ((fw++fo).length+1) cap)):=h.boxes hst (fun k _ e=>by rcases e with e|e;exact Or.inl e;exact Or.inr (Or.inr (Or.inr (Or.inr (Or.inr (Or.inr (Or.inr e)))))))
  have off:∀ k∈[x.b,x.r,x.d,x.m,x.mp],¬ vo.ownBlock=some k:=fun k hk e=>h.owned.off 2 vo k rfl hk e
  refine⟨⟨?_,?_,?_,?_,h.dm,h.base,?_,?_,h.start,?_,?_⟩,hbx,?_⟩
  · have:=(h.blk.grown hg (fun e=>off x.b (by simp) e.symm)).set 8 (.slice (some ⟨g,0,none⟩) ((fw++fo).length+1) cap)
    unfold cpArr at this
    simp only[List.setIfInBounds_toArray,List.set_cons_succ,List.set_cons_zero]at this
    exact this
  · exact h.rdr.still hst (fun e=>by rcases e with e|e;exact h.br e.symm;exact off x.r (by simp) e)
  · exact h.dp.still hst (fun e=>by rcases e with e|e;exact h.bd e.symm;exact off x.d (by simp) e)
  · exact h.mn.still hst (fun e=>by rcases e with e|e;exact h.bm e.symm;exact off x.m (by simp) e)
  · have:=(h.owned.grow 2 vo (.slice (some ⟨g,0,none⟩) ((fw++fo).length+1) cap) ⟨235,1,(fw++fo).length+1,(fw++fo)++[f]⟩ rfl h.lts hg hown (lies_at hat (Nat.le_refl _))).set (b:=x.b) (by simp) 8 (.slice (some ⟨g,0,none⟩) ((fw++fo).length+1) cap)
    have e:cpRows (openS st o) (fw++(fo++[f]))=(cpRows st (fw++fo)).set 2 ⟨235,1,(fw++fo).length+1,(fw++fo)++[f]⟩:=by
      unfold cpRows openS
      rw[← List.append_assoc]
      simp
      omega
    rw[e]
    exact this
  · exact h.names.to (hst.block _ h.names.lt (fun e=>by rcases e with e|e;exact h.mne.1 e;exact off x.mp (by simp) e))
  · have ht:=h.things.box hbx
    refine⟨ht.word,ht.none,by simp[openS,ht.len],?_⟩
    intro i f' o' h1 h2
    unfold openS at h2
    simp only at h2
    rcases Nat.lt_or_ge i fo.length with hi|hi
    · rw[List.getElem?_append_left hi]at h1
      rw[List.getElem?_append_left (by rw[← h.things.len];exact hi)]at h2
      exact ht.each i f' o' h1 h2
    · have hi2:i=fo.length:=by
        have:=(List.getElem?_eq_some_iff.1 h1).1
        simp at this
        omega
      subst hi2
      rw[List.getElem?_append_right (Nat.le_refl _),Nat.sub_self]at h1
      rw[h.things.len,List.getElem?_append_right (Nat.le_refl _),Nat.sub_self]at h2
      simp at h1 h2
      subst h1 h2
      exact ho.box hbx
  · have:=h.small;simp[openS];omega
  · exact hst.below (fun k hk=>by rcases hk with rfl|hk;exact h.base.1;exact (ownsRow_lt h.oo hk).2) h.size
end
theorem cpush_any (B:Nat) (x:CX) (st:RS) (w:World) (h:CpE B w x st) (q:Nat) (f:Value) (hf1:f.oneCell'=true) (o:ByteArray×Int×Int) (ho:ThingOk w x.b f o) (hq:Blk w q #[f] 235) (hlen:st.opens.length<3990) :
    Calls Tryz.prog 186 #[.pointer (some ⟨x.b,0,none⟩),.slice (some ⟨q,0,none⟩) 1 1] w fun e w'=>e=.returned (.tuple #[])∧CpE B w' x (openS st o)∧BoxStill w w'∧Below B w w':=by
  obtain⟨iT,hiT,hzT0,hzT1,hzT2⟩:=info_parts Tryz.infoThing
  obtain⟨s0,vd,vm,vo,fw,fo,h⟩:=h
  obtain⟨ao,co,hvo⟩:=own_shape h.oo
  subst hvo
  have hne:=h.offb 2 _ rfl x.b (by simp)
  have hc:=h.blk.cell
  have hf:=h.blk.free
  unfold cpArr at hc
  have hfl:(fw++fo).length≤3991:=by
    have h1:=h.things.len
    have h2:fw.length≤1:=by
      by_cases hs:0≤st.start
      · obtain⟨f,e,_⟩:=h.things.word hs;rw[e];simp
      · rw[h.things.none (by omega)];simp
    simp;omega
  have HO:=V h.oo
  have HB:=V h.blk
  unfold cpArr at HB
  have HS:=V h.size
  have HH:=V h
  have HQ:=V hq
  clear h hq
  generalize hL:(fw++fo).length=L at *
  have HL:=V hL
  clear hL
  go_enter Tryz.func186,Tryz.ntmps186
  go_wp2_with (at_builtin;refine wpList_append_lies _ rfl (.tmp 8) (.tmp 9) 98 rfl B 235 iT _ 1 8 Tryz.underlying98 hiT hzT0 hzT1 hzT2 rfl (by decide) (.slice ao L co) L (fw++fo) (by simp[Act.eval]) (U HO) ⟨q,0,none⟩ 1 1 [f] (by simp[Act.eval]) rfl (World.news_of_block (U HQ)) (by simpa using hf1) (by omega) (by unfold maxLen;omega) (by omega) (U HS) _ rfl ?_;intro g cap w5 hown hgrow hat hlt1;have hb5:=(U HB).grown hgrow hne;have hc5:=hb5.cell;have hf5:=hb5.free;have HOW:=V hown;have HG:=V hgrow;have HA:=V hat;clear hown hgrow hat hb5 hc hf)
  go_end0
  obtain rfl:=(U HL).symm
  obtain⟨k1,k2,k3⟩:=(U HH).growO (U HG) (U HOW) (U HA) o ho (by omega)
  exact⟨rfl,⟨_,_,_,_,_,_,k1⟩,k2,k3⟩
section
variable {B:Nat} {w:World} {x:CX} {st:RS} {s0:Int} {vd vm vo:Value} {fw fo:List Value}
theorem Cp.tellD {g k:Nat} (h:Cp B w x st s0 (.slice (some ⟨g,0,none⟩) st.c0.length k) vm vo fw fo) (n:Nat) (a:Int) :
    Cp B (w.setCell ⟨g,n * 2+1,none⟩ (.int .i64 a)) x { st with c0:=setArg st.c0 n a } s0 (.slice (some ⟨g,0,none⟩) st.c0.length k) vm vo fw fo∧BoxStill w (w.setCell ⟨g,n * 2+1,none⟩ (.int .i64 a))∧Below B w (w.setCell ⟨g,n * 2+1,none⟩ (.int .i64 a)):=by
  have hst:Still w (w.setCell ⟨g,n * 2+1,none⟩ (.int .i64 a)) (fun j=>j=g):=Still.set (F:=fun j=>j=g) (Still.refl w _) (Or.inl rfl) _ _
  have off:∀ j∈[x.b,x.r,x.d,x.m,x.mp],j≠g:=fun j hj e=>h.owned.off 0 _ j rfl hj (by rw[e];rfl)
  have hbx:=h.boxes hst (fun j _ e=>by rw[e];exact Or.inr (Or.inr (Or.inr (Or.inr (Or.inr (Or.inl rfl))))))
  refine⟨⟨h.blk.still hst (off x.b (by simp)),h.rdr.still hst (off x.r (by simp)),h.dp.still hst (off x.d (by simp)),h.mn.still hst (off x.m (by simp)),h.dm,h.base,?_,h.names.to (hst.block _ h.names.lt (off x.mp (by simp))),h.start,?_,?_⟩,hbx,?_⟩
  · have:=h.owned.write 0 g st.c0.length k _ rfl rfl (n * 2+1) (.int .i64 a)
    simpa [cpRows,setArg_length,setArg_cells] using this
  · have ht:=h.things.box hbx
    exact⟨ht.word,ht.none,ht.len,ht.each⟩
  · have:=h.small;simpa [setArg_length] using this
  · exact (Below.refl B w).setCell (ownsRow_lt h.od (k:=g) rfl).2 _
theorem Cp.tellM {g k:Nat} (h:Cp B w x st s0 vd (.slice (some ⟨g,0,none⟩) st.c1.length k) vo fw fo) (n:Nat) (a:Int) :
    Cp B (w.setCell ⟨g,n * 2+1,none⟩ (.int .i64 a)) x { st with c1:=setArg st.c1 n a } s0 vd (.slice (some ⟨g,0,none⟩) st.c1.length k) vo fw fo∧BoxStill w (w.setCell ⟨g,n * 2+1,none⟩ (.int .i64 a))∧Below B w (w.setCell ⟨g,n * 2+1,none⟩ (.int .i64 a)):=by
  have hst:Still w (w.setCell ⟨g,n * 2+1,none⟩ (.int .i64 a)) (fun j=>j=g):=Still.set (F:=fun j=>j=g) (Still.refl w _) (Or.inl rfl) _ _
  have off:∀ j∈[x.b,x.r,x.d,x.m,x.mp],j≠g:=fun j hj e=>h.owned.off 1 _ j rfl hj (by rw[e];rfl)
  have hbx:=h.boxes hst (fun j _ e=>by rw[e];exact Or.inr (Or.inr (Or.inr (Or.inr (Or.inr (Or.inr (Or.inl rfl)))))))
  refine⟨⟨h.blk.still hst (off x.b (by simp)),h.rdr.still hst (off x.r (by simp)),h.dp.still hst (off x.d (by simp)),h.mn.still hst (off x.m (by simp)),h.dm,h.base,?_,h.names.to (hst.block _ h.names.lt (off x.mp (by simp))),h.start,?_,?_⟩,hbx,?_⟩
  · have:=h.owned.write 1 g st.c1.length k _ rfl rfl (n * 2+1) (.int .i64 a)
    simpa [cpRows,setArg_length,setArg_cells] using this
  · have ht:=h.things.box hbx
    exact⟨ht.word,ht.none,ht.len,ht.each⟩
  · have:=h.small;simpa [setArg_length] using this
  · exact (Below.refl B w).setCell (ownsRow_lt h.om (k:=g) rfl).2 _
end
theorem Tryz.name78 : (Tryz.f78.name == "runtime.NumGoroutine") = false := by kernel_rfl
theorem Tryz.body78:Tryz.f78.body.isNone=false:=by kernel_rfl
theorem aim_raw (d g k n j:Nat) (y:Int) (w:World) (h:Blk w d #[.slice (some ⟨g,0,none⟩) n k] 140) (hj:j<n) (hn:n≤100000) (hcell:w.cell? ⟨g,j * 2+1,none⟩=some (.int .i64 y)) (hfr:w.frozen? ⟨g,j * 2+1,none⟩=false) :
    Calls Tryz.prog 188 #[.pointer (some ⟨d,0,none⟩),.int .i64 j] w fun e w'=>e=.returned (.tuple #[])∧∃ m,w'=(w.setCell ⟨g,j * 2+1,none⟩ (.int .i64 n)).drewN m:=by
  have HN:Hid (∀ m,Calls Tryz.prog 78 #[.pointer (some ⟨d,0,none⟩)] (w.drewN m) fun e w'=>e=.returned (.int .i64 n)∧w'=w.drewN m):=fun m=>partNext_any d n _ k (w.drewN m) h hn
  have hc:=h.cell
  have hjI:(j:Int)<n:=by omega
  have hnI:(n:Int)≤100000:=by omega
  clear h
  go_enter Tryz.func188,Tryz.ntmps188
  go_wp2_with fail
  go_region_law (refine step_call rfl 78 #[.tmp 9] #[96] rfl Tryz.func78 Tryz.name78 Tryz.body78 #[.pointer (some ⟨d,0,none⟩)] (by first|(simp[Act.eval];done)|(simp[Act.eval,Act.put];done)|rfl) (U HN 1) ?_;rintro e w1 ⟨rfl,rfl⟩;refine⟨_,rfl,?_⟩)
  all_goals
    go_wp2_with fail
    go_end0
    exact⟨rfl,1,rfl⟩
theorem aimHere_any (B:Nat) (x:CX) (st:RS) (w:World) (h:CpE B w x st) (n:Nat) (hn:n<hereS st) :
    Calls Tryz.prog 188 #[.pointer (some ⟨hereX x st,0,none⟩),.int .i64 n] w fun e w'=>e=.returned (.tuple #[])∧CpE B w' x (tellS st n)∧BoxStill w w'∧Below B w w':=by
  obtain⟨s0,vd,vm,vo,fw,fo,h⟩:=h
  unfold hereX tellS
  unfold hereS at hn
  have hsm:=h.small
  by_cases hs:0≤st.start
  · simp only[if_pos hs]at hn ⊢
    obtain⟨g,k,hv,_,_⟩:=h.od.form (by omega)
    subst hv
    obtain⟨y,hy⟩:∃ y,st.c0[n]? = some y:=⟨_,List.getElem?_eq_getElem hn⟩
    have hcell:=own_cell h.od (n * 2+1) (by omega)
    rw[(instrCells_at _ _ _ hy).2]at hcell
    refine (aim_raw x.d g k st.c0.length n y.2 w h.dp hn (by omega) hcell (own_free h.od _)).mono ?_
    rintro e w' ⟨rfl,m,rfl⟩
    obtain⟨k1,k2,k3⟩:=h.tellD n st.c0.length
    exact⟨rfl,⟨_,_,_,_,_,_,k1.drewN m⟩,k2.trans (fun _ _ _ hb _=>hb.drewN m),below_drawn k3 m⟩
  · simp only[if_neg hs]at hn ⊢
    obtain⟨g,k,hv,_,_⟩:=h.om.form (by omega)
    subst hv
    obtain⟨y,hy⟩:∃ y,st.c1[n]? = some y:=⟨_,List.getElem?_eq_getElem hn⟩
    have hcell:=own_cell h.om (n * 2+1) (by omega)
    rw[(instrCells_at _ _ _ hy).2]at hcell
    refine (aim_raw x.m g k st.c1.length n y.2 w h.mn hn (by omega) hcell (own_free h.om _)).mono ?_
    rintro e w' ⟨rfl,m,rfl⟩
    obtain⟨k1,k2,k3⟩:=h.tellM n st.c1.length
    exact⟨rfl,⟨_,_,_,_,_,_,k1.drewN m⟩,k2.trans (fun _ _ _ hb _=>hb.drewN m),below_drawn k3 m⟩
theorem Tryz.name50 : (Tryz.f50.name == "runtime.NumGoroutine") = false := by kernel_rfl
theorem Tryz.body50:Tryz.f50.body.isNone=false:=by kernel_rfl
theorem Tryz.name51 : (Tryz.f51.name == "runtime.NumGoroutine") = false := by kernel_rfl
theorem Tryz.body51:Tryz.f51.body.isNone=false:=by kernel_rfl
theorem Tryz.name77 : (Tryz.f77.name == "runtime.NumGoroutine") = false := by kernel_rfl
theorem Tryz.body77:Tryz.f77.body.isNone=false:=by kernel_rfl
def CpF (B:Nat) (w:World) (x:CX) (st:RS) (fw fo:List Value):Prop:=∃ s0 vd vm vo,Cp B w x st s0 vd vm vo fw fo
theorem CpF.e {B:Nat} {w:World} {x:CX} {st:RS} {fw fo:List Value} (h:CpF B w x st fw fo):CpE B w x st:=by
  obtain⟨_,_,_,_,h⟩:=h
  exact⟨_,_,_,_,_,_,h⟩
theorem CpE.f {B:Nat} {w:World} {x:CX} {st:RS} (h:CpE B w x st):∃ fw fo,CpF B w x st fw fo:=by
  obtain⟨_,_,_,_,_,_,h⟩:=h
  exact⟨_,_,_,_,_,_,h⟩
section
variable {B:Nat} {w w' W0 w1:World} {x:CX} {st st':RS} {s0:Int} {vd vm vo:Value} {fw fo:List Value}
theorem CpF.below (h:CpF B w x st fw fo) (hb:Below w.heap.size w w'):CpF B w' x st fw fo:=by
  obtain⟨_,_,_,_,h⟩:=h
  exact⟨_,_,_,_,h.below hb⟩
theorem CpF.size (h:CpF B w x st fw fo):B≤w.heap.size:=by
  obtain⟨_,_,_,_,h⟩:=h
  exact h.size
theorem CpF.blk (h:CpF B w x st fw fo):∃ s0 vo,Blk w x.b (cpArr x st s0 vo) 100:=by
  obtain⟨s0,_,_,vo,h⟩:=h
  exact⟨s0,vo,h.blk⟩
theorem CpF.things (h:CpF B w x st fw fo):Things w x.b st fw fo:=by
  obtain⟨_,_,_,_,h⟩:=h
  exact h.things
theorem Things.as (h:Things w x.b st fw fo) (e:st'.start=st.start∧st'.name=st.name∧st'.opens=st.opens):Things w x.b st' fw fo :=
  ⟨fun hs=>by rw[e.1]at hs;rw[e.2.1];exact h.word hs,fun hs=>h.none (by rw[e.1]at hs;exact hs),by rw[e.2.2];exact h.len,fun i f o h1 h2=>h.each i f o h1 (by rw[e.2.2]at h2;exact h2)⟩
theorem putS_as (st:RS) (op arg:Int):(putS st op arg).start=st.start∧(putS st op arg).name=st.name∧(putS st op arg).opens=st.opens:=by
  unfold putS;split<;>exact⟨rfl,rfl,rfl⟩
theorem tellS_as (st:RS) (n:Nat):(tellS st n).start=st.start∧(tellS st n).name=st.name∧(tellS st n).opens=st.opens:=by
  unfold tellS;split<;>exact⟨rfl,rfl,rfl⟩
theorem Cp.boxset (h:Cp B w x st s0 vd vm vo fw fo) {jb:Nat} {cs:Array Value} {T:TypeId} (hq:Blk w jb cs T) (hT:T=91∨T=2∨T=9) (i:Nat) (v:Value) (ht:Things (w.setCell ⟨jb,i,none⟩ v) x.b st fw fo):Cp B (w.setCell ⟨jb,i,none⟩ v) x st s0 vd vm vo fw fo:=by
  have hst:Still w (w.setCell ⟨jb,i,none⟩ v) (fun k=>k=jb):=Still.set (F:=fun k=>k=jb) (Still.refl w _) (Or.inl rfl) _ _
  have no:∀ {k:Nat} {cs':Array Value} {T':TypeId},Blk w k cs' T'→(T'=T→False)→¬ (k=jb):=fun hb' hne e=>by
    subst e
    unfold Blk at hq hb'
    rw[hq]at hb'
    simp at hb'
    exact hne hb'.2.symm
  refine⟨h.blk.still hst (no h.blk ?_),h.rdr.still hst (no h.rdr ?_),h.dp.still hst (no h.dp ?_),h.mn.still hst (no h.mn ?_),h.dm,h.base,?_,h.names.to (hst.block _ h.names.lt (h.names.notblk hq)),h.start,ht,h.small⟩
  · rcases hT with e|e|e<;>subst e<;>decide
  · rcases hT with e|e|e<;>subst e<;>decide
  · rcases hT with e|e|e<;>subst e<;>decide
  · rcases hT with e|e|e<;>subst e<;>decide
  · refine h.owned.to (fun n u k hv hk hlt=>hst.block k hlt (fun e=>?_))
    subst e
    match n,hv with
    | 0, hv => obtain rfl : vd = u := by simpa using hv
               rcases hT with e|e|e<;>subst e<;>exact row_not_blk hq h.od (by decide) hk
    | 1, hv => obtain rfl : vm = u := by simpa using hv
               rcases hT with e|e|e<;>subst e<;>exact row_not_blk hq h.om (by decide) hk
    | 2, hv => obtain rfl : vo = u := by simpa using hv
               rcases hT with e|e|e<;>subst e<;>exact row_not_blk hq h.oo (by decide) hk
    | n+3,hv=>simp at hv
theorem CpF.box (h:CpF B w1 x st' fw fo) (h0:Things W0 x.b st fw fo) (e:st'.start=st.start∧st'.name=st.name∧st'.opens=st.opens) (hbx:BoxStill W0 w1) {jb:Nat} {v0:Value} {T:TypeId} (hq:Blk w1 jb #[v0] T) (hT:T=91∨T=2∨T=9) (hj:W0.heap.size≤jb) (v:Value) :
    CpF B (w1.setCell ⟨jb,0,none⟩ v) x st' fw fo∧BoxStill W0 (w1.setCell ⟨jb,0,none⟩ v)∧Blk (w1.setCell ⟨jb,0,none⟩ v) jb #[v] T:=by
  have hbx2:BoxStill W0 (w1.setCell ⟨jb,0,none⟩ v):=fun k cs T hb ht=>(hbx k cs T hb ht).far (by have:=hb.lt;simp;omega) v
  obtain⟨_,_,_,_,h⟩:=h
  exact⟨⟨_,_,_,_,h.boxset hq hT 0 v ((h0.as e).box hbx2)⟩,hbx2,by simpa using hq.set 0 v⟩
end
theorem World.size_up (w:World) (o:Obj):(w.alloc o).heap.size=w.heap.size+1:=by simp
theorem World.size_dr (w:World):w.drew.heap.size=w.heap.size:=rfl
theorem World.size_drN (w:World) (n:Nat):(w.drewN n).heap.size=w.heap.size:=rfl
theorem below_drew {B:Nat} {a w:World} (h:Below B a w):Below B a w.drew:=⟨h.os,h.tape,h.output,h.size,h.block⟩
theorem below_longer {a w:World} (h:Below a.heap.size a w) (o:Obj):Below a.heap.size a (w.alloc o):=h.alloc h.size o
theorem blk_newAt {w:World} {q:Nat} (cs:Array Value) (T:TypeId) (h:q=w.heap.size):Blk (w.alloc (.cells cs T)) q cs T:=by subst h;exact Blk.new w cs T
def AddPost (B:Nat) (W:World) (x:CX) (st:RS) (fw fo:List Value) (op arg:Int) (e:Ending) (w':World):Prop:=e=.returned (.int .i64 (hereS st))∧CpF B w' x (putS st op arg) fw fo∧BoxStill W w'∧Below B W w'
theorem addF_any (B:Nat) (x:CX) (st:RS) (w:World) (fw fo:List Value) (h:CpF B w x st fw fo) (q:Nat) (op arg:Int) (c1:Nat) (hq:Blk w q #[.int .i64 op,.int .i64 arg] 65) (hlen:hereS st<4000) :
    Calls Tryz.prog 50 #[.pointer (some ⟨hereX x st,0,none⟩),.slice (some ⟨q,0,none⟩) 1 c1] w (AddPost B w x st fw fo op arg):=by
  obtain⟨s0,vd,vm,vo,h⟩:=h
  unfold AddPost hereX hereS putS
  unfold hereS at hlen
  by_cases hs:0≤st.start
  · simp only[if_pos hs]at hlen ⊢
    refine (partAdd_any B x.d q vd st.c0 op arg c1 w h.dp h.od hq h.size (by omega)).mono ?_
    rintro e w' ⟨rfl,g,cap,w1,hown,hg,hat,rfl⟩
    obtain⟨k1,k2,k3⟩:=h.growD hlen hg hown hat
    exact⟨rfl,⟨_,_,_,_,k1⟩,k2,k3⟩
  · simp only[if_neg hs]at hlen ⊢
    refine (partAdd_any B x.m q vm st.c1 op arg c1 w h.mn h.om hq h.size (by omega)).mono ?_
    rintro e w' ⟨rfl,g,cap,w1,hown,hg,hat,rfl⟩
    obtain⟨k1,k2,k3⟩:=h.growM hlen hg hown hat
    exact⟨rfl,⟨_,_,_,_,k1⟩,k2,k3⟩
def AddPostW (B:Nat) (w W:World) (x:CX) (st:RS) (fw fo:List Value) (op arg:Int) (e:Ending) (w':World):Prop:=e=.returned (.int .i64 (hereS st))∧BoxStill W w'∧(CpF B w' x (putS st op arg) fw fo∧Things w x.b st fw fo∧BoxStill w w'∧Below B w w')
theorem addW (B:Nat) (x:CX) (st:RS) (w:World) (fw fo:List Value) (h:CpF B w x st fw fo) (op arg:Int) (hlen:hereS st<4000) :
    ∀ (W:World) (q:Nat),Below w.heap.size w W→Blk W q #[.int .i64 op,.int .i64 arg] 65→Calls Tryz.prog 50 #[.pointer (some ⟨hereX x st,0,none⟩),.slice (some ⟨q,0,none⟩) 1 1] W (AddPostW B w W x st fw fo op arg):=by
  intro W q hW hq
  refine (addF_any B x st W fw fo (h.below hW) q op arg 1 hq hlen).mono ?_
  rintro e w' ⟨rfl,h1,h2,h3⟩
  have hs:=h.size
  exact⟨rfl,h2,h1,h.things,(BoxStill.ofBelow hW).trans h2,Below.trans (b:=W) ⟨hW.os,hW.tape,hW.output,hW.size,fun k hk=>hW.block k (by omega)⟩ h3⟩
def Boxed (B:Nat) (w:World) (x:CX) (st:RS) (fw fo:List Value) (n:Int) (s:Value) (wc:World):Prop:=∃ jb,s=.pointer (some ⟨jb,0,none⟩)∧Blk wc jb #[.int .i64 n] 2∧CpF B wc x st fw fo∧BoxStill w wc∧Below B w wc
section
variable {B:Nat} {w w1:World} {x:CX} {st st':RS} {fw fo:List Value} {n:Int} {jb:Nat}
theorem boxed_set (hB:B≤w.heap.size) (e:st'.start=st.start∧st'.name=st.name∧st'.opens=st.opens) (h:CpF B w1 x st' fw fo∧Things w x.b st fw fo∧BoxStill w w1∧Below B w w1) (hj:Blk w1 jb #[.int .i64 0] 2) (hl:w.heap.size≤jb):Boxed B w x st' fw fo n (.pointer (some ⟨jb,0,none⟩)) (w1.setCell ⟨jb,0,none⟩ (.int .i64 n)):=by
  obtain⟨h1,h2,h3,h4⟩:=h
  obtain⟨k1,k2,k3⟩:=h1.box h2 e h3 hj (Or.inr (Or.inl rfl)) hl (.int .i64 n)
  exact⟨jb,rfl,k3,k1,k2,h4.setCell (Nat.le_trans hB hl) _⟩
theorem boxed_new (h:CpF B w1 x st' fw fo∧Things w x.b st fw fo∧BoxStill w w1∧Below B w w1):Boxed B w x st' fw fo n (.pointer (some ⟨w1.heap.size,0,none⟩)) (w1.alloc (.cells #[.int .i64 n] 2)):=by
  obtain⟨h1,h2,h3,h4⟩:=h
  exact⟨_,rfl,Blk.new _ _ _,h1.below ((Below.refl _ _).alloc (Nat.le_refl _) _),h3.trans (BoxStill.ofBelow ((Below.refl _ _).alloc (Nat.le_refl _) _)),h4.alloc h1.size _⟩
end
theorem pushW (B:Nat) (x:CX) (st:RS) (wc:World) (h:CpE B wc x st) (f:Value) (hf1:f.oneCell'=true) (o:ByteArray×Int×Int) (ho:ThingOk wc x.b f o) (hlen:st.opens.length<3990) :
    Calls Tryz.prog 186 #[.pointer (some ⟨x.b,0,none⟩),.slice (some ⟨wc.heap.size,0,none⟩) 1 1] (wc.alloc (.cells #[f] 235)) fun e w'=>e=.returned (.tuple #[])∧CpE B w' x (openS st o)∧BoxStill wc w'∧Below B wc w':=by
  have hb:Below wc.heap.size wc (wc.alloc (.cells #[f] 235)):=(Below.refl _ _).alloc (Nat.le_refl _) _
  obtain⟨_,_,h⟩:=h.f
  have hs:=h.size
  refine (cpush_any B x st _ (h.below hb).e _ f hf1 o (ho.box (BoxStill.ofBelow hb)) (Blk.new _ _ _) hlen).mono ?_
  rintro e w' ⟨rfl,k1,k2,k3⟩
  exact⟨rfl,k1,(BoxStill.ofBelow hb).trans k2,Below.trans (b:=wc.alloc (.cells #[f] 235)) ⟨hb.os,hb.tape,hb.output,hb.size,fun k hk=>hb.block k (by omega)⟩ k3⟩
theorem openIf_any (B:Nat) (x:CX) (st:RS) (w:World) (h:CpE B w x st) (hlen:hereS st<4000) (hop:st.opens.length<3980) :
    Calls Tryz.prog 143 #[.pointer (some ⟨x.b,0,none⟩)] w fun e w'=>e=.returned (.tuple #[])∧CpE B w' x (openS (putS st 2 0) (⟨#[105,102]⟩,0,hereS st))∧BoxStill w w'∧Below B w w':=by
  obtain⟨fw,fo,h⟩:=h.f
  have hb0:Below w.heap.size w (w.alloc (.cells #[.pointer (some ⟨x.b,0,none⟩)] 91)):=(Below.refl _ _).alloc (Nat.le_refl _) _
  have hcb:=Blk.new w #[.pointer (some ⟨x.b,0,none⟩)] 91
  have h0:=h.below hb0
  have hB:=h.size
  obtain⟨s0,vo,hblk⟩:=h0.blk
  have hc:=hblk.cell
  have hxl:x.b<w.heap.size:=by obtain⟨_,_,hb⟩:=h.blk;exact hb.lt
  have hxl1:x.b<w.heap.size+1:=by omega
  have hxl2:x.b≤w.heap.size:=by omega
  have hxl3:x.b≤w.heap.size+1:=by omega
  have hxl4:x.b≤w.heap.size+1+1:=by omega
  have hxl5:x.b≤w.heap.size+1+1+1:=by omega
  have hxl6:x.b<w.heap.size+1+1:=by omega
  have hxl7:x.b<w.heap.size+1+1+1:=by omega
  have hxl8:x.b<w.heap.size+1+1+1+1:=by omega
  unfold cpArr at hc
  have HADD:=V (addW B x st _ fw fo h0 2 0 hlen)
  have hsz:(w.alloc (.cells #[.pointer (some ⟨x.b,0,none⟩)] 91)).heap.size=w.heap.size+1:=by simp
  have hcc:=hcb.cell
  have HCB:=V hcb
  have HB0:=V hb0
  clear hblk hcb hb0 h h0
  generalize hereX x st=hx at *
  go_enter Tryz.func143,Tryz.ntmps143
  go_wp2_with fail
  generalize w.alloc (.cells #[.pointer (some ⟨x.b,0,none⟩)] 91)=W0 at *
  go_cut [2] from 3 to 14 (fun s2 wc=>Boxed B W0 x (putS st 2 0) fw fo (hereS st) s2 wc)
  case first =>
    go_region_law (first
      | (refine step_call rfl 51 #[.const (.int .i64 2)] #[3] rfl Tryz.func51 Tryz.name51 Tryz.body51 #[.int .i64 2] (by first|(simp[Act.eval];done)|rfl) (plainI_any 2 _) ?_;rintro e w1 ⟨rfl,rfl⟩;refine⟨_,rfl,?_⟩)
      | (refine step_call rfl 50 #[.tmp 6,.tmp 8] #[96,33] rfl Tryz.func50 Tryz.name50 Tryz.body50 #[.pointer (some ⟨hx,0,none⟩),.slice (some ⟨w.heap.size+1+1+1,0,none⟩) 1 1] (by first|(simp[Act.eval];done)|rfl) (U HADD _ (w.heap.size+1+1+1) (by (repeat (first|with_reducible refine below_drew ?_|with_reducible refine below_drawn ?_ _|with_reducible refine below_longer ?_ _|(with_reducible refine Below.alloc ?_ ?_ _;rotate_left;(first|omega|((repeat (first|rw[World.size_up]|rw[World.size_dr]|rw[World.size_drN]))<;>omega)))));(with_reducible exact Below.refl _ _)) (by (repeat (first|with_reducible refine Blk.drew ?_|with_reducible refine Blk.drewN ?_ _|(with_reducible refine blk_newAt _ _ ?_;(first|omega|((repeat (first|rw[World.size_up]|rw[World.size_dr]|rw[World.size_drN]))<;>omega)))|with_reducible refine Blk.alloc ?_ _));(first|done|with_reducible assumption))) ?_;rintro e w1 ⟨rfl,h2,h1⟩;refine⟨_,rfl,?_⟩;have hjb:Blk w1 (w.heap.size+1) #[.int .i64 0] 2:=h2 _ _ _ (by (repeat (first|with_reducible refine Blk.drew ?_|with_reducible refine Blk.drewN ?_ _|(with_reducible refine blk_newAt _ _ ?_;(first|omega|((repeat (first|rw[World.size_up]|rw[World.size_dr]|rw[World.size_drN]))<;>omega)))|with_reducible refine Blk.alloc ?_ _));(first|done|with_reducible assumption)) (Or.inr (Or.inl rfl));have hcj:=hjb.cell;have hfj:=hjb.free;have HJ:=V hjb;clear hjb;have H1:=V h1;clear h1 h2)
      | (refine step_call rfl 50 #[.tmp 6,.tmp 8] #[96,33] rfl Tryz.func50 Tryz.name50 Tryz.body50 #[.pointer (some ⟨hx,0,none⟩),.slice (some ⟨w.heap.size+1+1+1,0,none⟩) 1 1] (by first|(simp[Act.eval];done)|rfl) (U HADD _ (w.heap.size+1+1+1) (by (repeat (first|with_reducible refine below_drew ?_|with_reducible refine below_drawn ?_ _|with_reducible refine below_longer ?_ _|(with_reducible refine Below.alloc ?_ ?_ _;rotate_left;(first|omega|((repeat (first|rw[World.size_up]|rw[World.size_dr]|rw[World.size_drN]))<;>omega)))));(with_reducible exact Below.refl _ _)) (by (repeat (first|with_reducible refine Blk.drew ?_|with_reducible refine Blk.drewN ?_ _|(with_reducible refine blk_newAt _ _ ?_;(first|omega|((repeat (first|rw[World.size_up]|rw[World.size_dr]|rw[World.size_drN]))<;>omega)))|with_reducible refine Blk.alloc ?_ _));(first|done|with_reducible assumption))) ?_;rintro e w1 ⟨rfl,h2,h1⟩;refine⟨_,rfl,?_⟩;have hjb:Blk w1 (w.heap.size+1+1) #[.int .i64 0] 2:=h2 _ _ _ (by (repeat (first|with_reducible refine Blk.drew ?_|with_reducible refine Blk.drewN ?_ _|(with_reducible refine blk_newAt _ _ ?_;(first|omega|((repeat (first|rw[World.size_up]|rw[World.size_dr]|rw[World.size_drN]))<;>omega)))|with_reducible refine Blk.alloc ?_ _));(first|done|with_reducible assumption)) (Or.inr (Or.inl rfl));have hcj:=hjb.cell;have hfj:=hjb.free;have HJ:=V hjb;clear hjb;have H1:=V h1;clear h1 h2)
      | (refine step_call rfl 50 #[.tmp 6,.tmp 8] #[96,33] rfl Tryz.func50 Tryz.name50 Tryz.body50 #[.pointer (some ⟨hx,0,none⟩),.slice (some ⟨w.heap.size+1+1,0,none⟩) 1 1] (by first|(simp[Act.eval];done)|rfl) (U HADD _ (w.heap.size+1+1) (by (repeat (first|with_reducible refine below_drew ?_|with_reducible refine below_drawn ?_ _|with_reducible refine below_longer ?_ _|(with_reducible refine Below.alloc ?_ ?_ _;rotate_left;(first|omega|((repeat (first|rw[World.size_up]|rw[World.size_dr]|rw[World.size_drN]))<;>omega)))));(with_reducible exact Below.refl _ _)) (by (repeat (first|with_reducible refine Blk.drew ?_|with_reducible refine Blk.drewN ?_ _|(with_reducible refine blk_newAt _ _ ?_;(first|omega|((repeat (first|rw[World.size_up]|rw[World.size_dr]|rw[World.size_drN]))<;>omega)))|with_reducible refine Blk.alloc ?_ _));(first|done|with_reducible assumption))) ?_;rintro e w1 ⟨rfl,h2,h1⟩;refine⟨_,rfl,?_⟩;have hjb:Blk w1 (w.heap.size+1+1+1) #[.int .i64 0] 2:=h2 _ _ _ (by (repeat (first|with_reducible refine Blk.drew ?_|with_reducible refine Blk.drewN ?_ _|(with_reducible refine blk_newAt _ _ ?_;(first|omega|((repeat (first|rw[World.size_up]|rw[World.size_dr]|rw[World.size_drN]))<;>omega)))|with_reducible refine Blk.alloc ?_ _));(first|done|with_reducible assumption)) (Or.inr (Or.inl rfl));have hcj:=hjb.cell;have hfj:=hjb.free;have HJ:=V hjb;clear hjb;have H1:=V h1;clear h1 h2)
      | (refine step_call rfl 50 #[.tmp 6,.tmp 8] #[96,33] rfl Tryz.func50 Tryz.name50 Tryz.body50 #[.pointer (some ⟨hx,0,none⟩),.slice (some ⟨w.heap.size+1+1,0,none⟩) 1 1] (by first|(simp[Act.eval];done)|rfl) (U HADD _ (w.heap.size+1+1) (by (repeat (first|with_reducible refine below_drew ?_|with_reducible refine below_drawn ?_ _|with_reducible refine below_longer ?_ _|(with_reducible refine Below.alloc ?_ ?_ _;rotate_left;(first|omega|((repeat (first|rw[World.size_up]|rw[World.size_dr]|rw[World.size_drN]))<;>omega)))));(with_reducible exact Below.refl _ _)) (by (repeat (first|with_reducible refine Blk.drew ?_|with_reducible refine Blk.drewN ?_ _|(with_reducible refine blk_newAt _ _ ?_;(first|omega|((repeat (first|rw[World.size_up]|rw[World.size_dr]|rw[World.size_drN]))<;>omega)))|with_reducible refine Blk.alloc ?_ _));(first|done|with_reducible assumption))) ?_;rintro e w1 ⟨rfl,h2,h1⟩;refine⟨_,rfl,?_⟩;skip;have H1:=V h1;clear h1 h2))
    all_goals
      go_wp2_with fail
      go_meet
      first
      | exact boxed_new (U H1)
      | exact boxed_set (by omega) (putS_as _ _ _) (U H1) (U HJ) (by omega)
  case rest =>
    obtain⟨jb,rfl,hj,hF,hbx,hbl⟩:=hcut
    have hcb:=hbx _ _ _ (U HCB) (Or.inl rfl)
    have hcc2:=hcb.cell
    have H1:=V (And.intro hcb (And.intro hj (And.intro hF (And.intro hbx hbl))))
    clear hj hF hbx hbl hcb hcc hc HADD
    go_wp2_with fail
    obtain⟨hcb,hj,hF,hbx,hbl⟩:=U H1
    refine (pushW B x (putS st 2 0) wc hF.e _ rfl (⟨#[105,102]⟩,0,hereS st) ⟨_,hcb,Or.inl ⟨rfl,jb,hj,rfl⟩⟩ (by rw[(putS_as _ _ _).2.2];omega)).mono ?_
    rintro e w2 ⟨rfl,k1,k2,k3⟩
    clear hcb hj hF hbx hbl hcc2
    go_wp2_with fail
    go_end0
    obtain⟨hcb,hj,hF,hbx,hbl⟩:=U H1
    exact⟨rfl,k1,(BoxStill.ofBelow (U HB0)).trans (hbx.trans k2),Below.trans (b:=W0) ⟨(U HB0).os,(U HB0).tape,(U HB0).output,(U HB0).size,fun k hk=>(U HB0).block k (by omega)⟩ (hbl.trans k3)⟩
theorem nextF_any (B:Nat) (x:CX) (st:RS) (w:World) (h:CpE B w x st) :
    Calls Tryz.prog 78 #[.pointer (some ⟨hereX x st,0,none⟩)] w fun e w'=>e=.returned (.int .i64 (hereS st))∧w'=w:=by
  obtain⟨s0,vd,vm,vo,fw,fo,h⟩:=h
  have hsm:=h.small
  unfold hereX hereS
  by_cases hs:0≤st.start
  · simp only[if_pos hs]
    obtain⟨a,k,hv⟩:=own_shape h.od
    subst hv
    exact partNext_any x.d st.c0.length a k w h.dp (by omega)
  · simp only[if_neg hs]
    obtain⟨a,k,hv⟩:=own_shape h.om
    subst hv
    exact partNext_any x.m st.c1.length a k w h.mn (by omega)
theorem CpF.size0 {B:Nat} {w:World} {x:CX} {st:RS} {fw fo:List Value} (h:CpF B w x st fw fo):x.b<w.heap.size:=by obtain⟨_,_,hb⟩:=h.blk;exact hb.lt
theorem below_less {B C:Nat} {w w':World} (h:Below C w w') (hB:B≤C):Below B w w':=⟨h.os,h.tape,h.output,h.size,fun k hk=>h.block k (by omega)⟩
theorem hereX_put (x:CX) (st:RS) (op arg:Int):hereX x (putS st op arg)=hereX x st:=by unfold hereX;rw[(putS_as st op arg).1]
end Go.Proofs.YtmeiikjpaepogaaGreatDoor
