/- The program's tokens.Number. -/
import Derived.Test.YtmeiikjpaepogaaGreatDoorRows
import Derived.Test.YtmeiikjpaepogaaGreatDoorShelf
import Derived.Test.YtmeiikjpaepogaaGreatDoorE12
import Derived.Test.YtmeiikjpaepogaaGreatDoorE01
import Derived.Lib.ParseIntB
import Derived.Test.YtmeiikjpaepogaaGreatDoorE08
import Derived.Deep.CutRange
import Derived.Test.YtmeiikjpaepogaaGreatDoorE10
set_option maxRecDepth 100000
set_option maxHeartbeats 4000000
namespace Go.Proofs.YtmeiikjpaepogaaGreatDoor
open Go Go.RowKit
def ErrsOk (w:World):Prop:=(∃ te pe,w.cell? ⟨1,0,none⟩=some (.iface te pe))∧(∃ te pe,w.cell? ⟨2,0,none⟩=some (.iface te pe))∧6≤w.heap.size
theorem ErrsOk.below {w w':World} (h:ErrsOk w) (hb:Below w.heap.size w w'):ErrsOk w':=by
  obtain⟨⟨t1,p1,h1⟩,⟨t2,p2,h2⟩,h3⟩:=h
  exact⟨⟨t1,p1,by rw[hb.cell (by simp only;omega)];exact h1⟩,⟨t2,p2,by rw[hb.cell (by simp only;omega)];exact h2⟩,by have:=hb.size;omega⟩
theorem bytesWorld_below' (w:World) (t:ByteArray) (T:TypeId):Below w.heap.size w (Lib.bytesWorld w T t):=Lib.bytesWorld_below _ _ _
theorem tokNumber_any (s:ByteArray) (w:World) (hs:s.size≤2000) (hE:ErrsOk w) :
    Calls Tryz.prog 76 #[.string s] w fun e w'=>e=.returned (.tuple #[.int .i64 (numV s),.bool (numS s).isSome])∧Below w.heap.size w w':=by
  have hpre:=Tryz.strings_HasPrefix s ⟨#[43]⟩ w
  have HP:=V hpre
  obtain⟨⟨t1,p1,h1⟩,⟨t2,p2,h2⟩,h3⟩:=hE
  clear hpre
  by_cases hplus:s.toList.head? = some 43
  · have hn:=num_plus s hplus
    have hv:numV s=0:=by unfold numV;rw[hn];rfl
    have hb:Lib.hasPrefix s.data.toList [43]=true:=by
      rw[← ByteArray.toList_eq]
      cases hl:s.toList with
      | nil=>rw[hl]at hplus;simp at hplus
      | cons c r=>rw[hl]at hplus;simp at hplus;subst hplus;simp[Lib.hasPrefix]
    have HB:=V hb
    rw[hn,hv]
    clear hn hv hb hplus h1 h2
    go_enter Tryz.func76,Tryz.ntmps76
    go_wp2_with fail
    refine (U HP).mono ?_
    rintro e w1 ⟨rfl,hw⟩
    obtain rfl:=hw.symm
    clear hw
    rw[U HB]
    go_wp2_with fail
    go_ret2
    exact⟨rfl,Below.refl _ _⟩
  · have hlink:=num_link s hplus
    have hb:Lib.hasPrefix s.data.toList [43]=false:=by
      rw[← ByteArray.toList_eq]
      cases hl:s.toList with
      | nil=>simp[Lib.hasPrefix]
      | cons c r =>
        rw[hl]at hplus
        have:c≠43:=by simpa using hplus
        have e:((43:UInt8) == c)=false:=by simpa using Ne.symm this
        simp[Lib.hasPrefix,List.isPrefixOf,e]
    have HB:=V hb
    rw[ByteArray.toList_eq]at hlink
    rcases hp:Lib.parseIntB 64 s.data.toList with v|_|_
    · skip
      rw[hp]at hlink
      have hv:numV s=v:=by unfold numV;rw[hlink];rfl
      have HC:=V (Tryz.strconv_ParseInt_10_at64_ok s (by omega) v hp w)
      rw[hlink,hv]
      clear hlink hv hb hplus h1 h2 hp
      go_enter Tryz.func76,Tryz.ntmps76
      go_wp2_with fail
      refine (U HP).mono ?_
      rintro e w1 ⟨rfl,hw⟩
      obtain rfl:=hw.symm
      clear hw
      rw[U HB]
      go_wp2_with fail
      refine (U HC).mono ?_
      rintro e w1 ⟨rfl,hw⟩
      have hbw:Below w.heap.size w w1:=by
        rcases hw with rfl|⟨t,rfl⟩
        · exact Below.refl _ _
        · exact bytesWorld_below' _ _ _
      clear hw
      go_wp2_with fail
      go_ret2
      exact⟨rfl,hbw⟩
    · skip
      rw[hp]at hlink
      have hv:numV s=0:=by unfold numV;rw[hlink];rfl
      have HC:=V (Tryz.strconv_ParseInt_10_at64_syntax s (by omega) hp _ w h1 (Or.inr ⟨t1,p1,rfl⟩))
      rw[hlink,hv]
      clear hlink hv hb hplus h1 h2 hp
      go_enter Tryz.func76,Tryz.ntmps76
      go_wp2_with fail
      refine (U HP).mono ?_
      rintro e w1 ⟨rfl,hw⟩
      obtain rfl:=hw.symm
      clear hw
      rw[U HB]
      go_wp2_with fail
      refine (U HC).mono ?_
      rintro e w1 ⟨N,rfl,_,_,hbw⟩
      go_wp2_with fail
      go_ret2
      exact⟨rfl,hbw⟩
    · skip
      rw[hp]at hlink
      have hv:numV s=0:=by unfold numV;rw[hlink];rfl
      have HC:=V (Tryz.strconv_ParseInt_10_at64_range s (by omega) hp _ w h2 (Or.inr ⟨t2,p2,rfl⟩))
      rw[hlink,hv]
      clear hlink hv hb hplus h1 h2 hp
      go_enter Tryz.func76,Tryz.ntmps76
      go_wp2_with fail
      refine (U HP).mono ?_
      rintro e w1 ⟨rfl,hw⟩
      obtain rfl:=hw.symm
      clear hw
      rw[U HB]
      go_wp2_with fail
      refine (U HC).mono ?_
      rintro e w1 ⟨N,rfl,_,_,hbw⟩
      go_wp2_with fail
      go_ret2
      exact⟨rfl,hbw⟩
theorem meanV_shape (s:ByteArray):∃ a b c,meanV s=.agg #[.string a,.int .i64 b,.int .i64 c]:=by
  unfold meanV
  split
  · exact⟨_,_,_,rfl⟩
  · exact⟨_,_,_,rfl⟩
theorem lookS_shape (names:List (ByteArray×Int×Int)) (s:ByteArray):∃ a b,lookS names s=.agg #[.int .i64 a,.int .i64 b]:=by
  unfold lookS
  split
  · exact⟨_,_,rfl⟩
  · exact⟨_,_,rfl⟩
theorem CpE.names {B:Nat} {w:World} {x:CX} {st:RS} (h:CpE B w x st):MapIs w x.mp st.names:=by
  obtain⟨_,_,_,_,_,_,h⟩:=h
  exact h.names
theorem mayBeName_any (B:Nat) (x:CX) (st:RS) (w:World) (h:CpE B w x st) (tok:ByteArray) (hs:tok.size≤2000) (hV:VocOk w) (hE:ErrsOk w) :
    Calls Tryz.prog 193 #[.pointer (some ⟨x.b,0,none⟩),.string tok] w (fun e w'=>e=.returned (.bool (!tok.toList.isEmpty&&!(meanS tok).isSome&&!(numS tok).isSome&&!(st.names.find? (fun x=>x.1 == tok)).isSome))∧Below w.heap.size w w'):=by
  obtain⟨ma,mb,mc,hmv⟩:=meanV_shape tok
  obtain⟨la,lb,hlv⟩:=lookS_shape st.names tok
  have HM:=V (meaning_any tok w hV)
  rw[hmv]at HM
  have HH:=V h
  have HE:=V hE
  clear h hE hV hmv
  generalize hbm:(meanS tok).isSome=bm at *
  generalize hbn:(numS tok).isSome=bn at *
  generalize hbf:(st.names.find? (fun x=>x.1 == tok)).isSome=bf at *
  generalize hbe:tok.toList.isEmpty=be at *
  have HBN:=V hbn
  have HBF:=V hbf
  have HBM:=V hbm
  clear hbm hbn hbf
  go_enter Tryz.func193,Tryz.ntmps193
  go_wp2_with fail
  refine (U HM).mono ?_
  rintro e w1 ⟨rfl,hb1⟩
  have HB1:=V hb1
  clear hb1 HM
  go_wp2_with fail
  have hb2:Below w.heap.size w (w1.alloc (.cells #[.string ma,.int .i64 mb,.int .i64 mc] 146)):=(U HB1).alloc (by have:=(U HB1).size;omega) _
  refine (tokNumber_any tok _ hs ((U HE).below hb2)).mono ?_
  rw[U HBN]
  rintro e w2 ⟨rfl,hb3⟩
  have hb4:Below w.heap.size w w2:=hb2.trans (below_less hb3 (by have:=hb2.size;omega))
  have h2:=(U HH).below hb4
  have hlk:=h2.names.look tok hs
  rw[hlv,U HBF]at hlk
  obtain⟨fw,fo,hF⟩:=h2.f
  obtain⟨s0,vo,hblk⟩:=hF.blk
  have hc:=hblk.cell
  unfold cpArr at hc
  have hxl:=hblk.lt
  have HB4:=V hb4
  clear hb2 hb3 hb4 h2 hF hblk hlv
  generalize numV tok=nv at *
  cases be<;>cases bm<;>cases bn<;>cases bf
  all_goals
    go_wp2_with fail
    go_ret
    exact⟨rfl,(U HB4).alloc (by have:=(U HB4).size;omega) _⟩
theorem newReader_any (s:ByteArray) (w:World) :
    Calls Tryz.prog 72 #[.string s] w (fun e w'=>e=.returned (.pointer (some ⟨w.heap.size,0,none⟩))∧w'=w.alloc (.cells (rdrA s 0) 192)):=by
  unfold rdrA
  go_enter Tryz.func72,Tryz.ntmps72
  go_wp2_with fail
  go_ret
  exact⟨rfl,rfl⟩
theorem make_names (w:World):(Instr.makeMap 97 none).run Tryz.prog w=.ok (.map (some w.heap.size)) (w.alloc (.map #[] 0)):=by
  simp[Instr.makeMap]
theorem newCompiler_any (s:ByteArray) (w:World) (hs:s.size≤2000) :
    Calls Tryz.prog 47 #[.string s] w (fun e w'=>∃ x:CX,e=.returned (.pointer (some ⟨x.b,0,none⟩))∧CpE w.heap.size w' x (startS s)∧Below w.heap.size w w'):=by
  have hmm:=make_names
  go_enter Tryz.func47,Tryz.ntmps47
  go_wp2_with fail
  refine (newReader_any s _).mono ?_
  rintro e w1 ⟨rfl,rfl⟩
  go_wp2_with fail
  go_ret
  refine⟨⟨w.heap.size+1+1+1+1,w.heap.size+1,w.heap.size+1+1,w.heap.size,w.heap.size+1+1+1⟩,rfl,⟨0,.slice none 0 0,.slice none 0 0,.slice none 0 0,[],[],?_⟩,?_⟩
  · refine⟨?_,?_,?_,?_,?_,?_,?_,?_,?_,?_,?_⟩
    · exact blk_newAt _ _ (by simp)
    · exact (((blk_newAt _ _ (by simp)).alloc _).alloc _).alloc _
    · exact ((blk_newAt _ _ (by simp)).alloc _).alloc _
    · exact ((((blk_newAt _ _ rfl).alloc _).alloc _).alloc _).alloc _
    · simp only;omega
    · simp only;omega
    · refine⟨?_,?_,?_,rfl⟩
      · intro i v s' hv hs'
        match i,hv,hs' with
        | 0,hv,hs'=>simp[cpRows,startS]at hv hs';subst hv hs';exact World.ownsRow_nil _ _ _ _
        | 1,hv,hs'=>simp[cpRows,startS]at hv hs';subst hv hs';exact World.ownsRow_nil _ _ _ _
        | 2,hv,hs'=>simp[cpRows,startS]at hv hs';subst hv hs';exact World.ownsRow_nil _ _ _ _
        | i+3,hv,hs'=>simp at hv
      · intro i j v v' k hv hv' hk hk'
        match i,hv with
        | 0,hv=>simp at hv;subst hv;simp[Value.ownBlock]at hk
        | 1,hv=>simp at hv;subst hv;simp[Value.ownBlock]at hk
        | 2,hv=>simp at hv;subst hv;simp[Value.ownBlock]at hk
        | i+3,hv=>simp at hv
      · intro i v b hv hb hk
        match i,hv with
        | 0,hv=>simp at hv;subst hv;simp[Value.ownBlock]at hk
        | 1,hv=>simp at hv;subst hv;simp[Value.ownBlock]at hk
        | 2,hv=>simp at hv;subst hv;simp[Value.ownBlock]at hk
        | i+3,hv=>simp at hv
    · have hn:=MapIs.new (((w.alloc (.cells #[.slice none 0 0] 140)).alloc (.cells (rdrA s 0) 192)).alloc (.cells #[.slice none 0 0] 140))
      rw[World.size_up,World.size_up,World.size_up]at hn
      exact hn.to (Below.heap_alloc _ _ _ hn.lt)
    · intro h;simp[startS]at h
    · exact⟨fun h=>by simp[startS]at h,fun _=>rfl,by simp[startS],fun i f o h1 _=>by simp at h1⟩
    · simp[startS];omega
  · (repeat (first|with_reducible refine below_drew ?_|with_reducible refine below_drawn ?_ _|with_reducible refine below_longer ?_ _|(with_reducible refine Below.alloc ?_ ?_ _;rotate_left;(first|omega|((repeat (first|rw[World.size_up]|rw[World.size_dr]|rw[World.size_drN]))<;>omega)))));(with_reducible exact Below.refl _ _)
theorem VocOk.low {B:Nat} {w w':World} (h:VocOk w) (hB:6≤B) (hb:Below B w w'):VocOk w':=by
  obtain⟨⟨T,fr,h1⟩,h2⟩:=h
  exact⟨⟨T,fr,by rw[hb.block _ (by omega)];exact h1⟩,by have:=hb.size;omega⟩
theorem ErrsOk.low {B:Nat} {w w':World} (h:ErrsOk w) (hB:6≤B) (hb:Below B w w'):ErrsOk w':=by
  obtain⟨⟨t1,p1,h1⟩,⟨t2,p2,h2⟩,h3⟩:=h
  exact⟨⟨t1,p1,by rw[hb.cell (by simp only;omega)];exact h1⟩,⟨t2,p2,by rw[hb.cell (by simp only;omega)];exact h2⟩,by have:=hb.size;omega⟩
def Took (B:Nat) (w:World) (x:CX) (r:RS) (e:Ending) (w':World):Prop :=
  e=.returned (.int .i64 r.err)∧(r.err=0→CpE B w' x r)∧(r.err≠0→∃ p:Nat,r.place=p∧AtIs w' x p)∧Below B w w'
theorem Took.fail {B:Nat} {w w':World} {x:CX} {st:RS} {er:Int} (h0:st.err=0) (he:er≠0) (h:AtIs w' x st.place0) (hb:Below B w w'):Took B w x (failS st er) (.returned (.int .i64 er)) w':=by
  unfold failS
  rw[if_pos h0]
  exact⟨rfl,fun e=>absurd e he,fun _=>⟨_,rfl,h⟩,hb⟩
theorem Took.ok {B:Nat} {w w':World} {x:CX} {st:RS} (h0:st.err=0) (h:CpE B w' x st) (hb:Below B w w'):Took B w x st (.returned (.int .i64 0)) w' :=
  ⟨by rw[h0],fun _=>h,fun e=>absurd h0 e,hb⟩
theorem Cp.openLen {B:Nat} {w:World} {x:CX} {st:RS} {s0:Int} {vd vm vo:Value} {fw fo:List Value} (h:Cp B w x st s0 vd vm vo fw fo):(fw++fo).length≤4001:=by
  have h1:=h.things.len
  have h2:fw.length≤1:=by
    by_cases hs:0≤st.start
    · obtain⟨f,e,_⟩:=h.things.word hs;rw[e];simp
    · rw[h.things.none (by omega)];simp
  have:=h.small
  simp;omega
theorem cdef_nest (B:Nat) (x:CX) (st:RS) (w:World) (h:CpE B w x st) (k:Int) (hno:0≤st.start∨st.opens≠[]) (h0:st.err=0) :
    Calls Tryz.prog 147 #[.pointer (some ⟨x.b,0,none⟩),.int .i64 k] w (Took B w x (failS st 4)):=by
  obtain⟨s0,vd,vm,vo,fw,fo,h⟩:=h
  obtain⟨ao,co,hvo⟩:=own_shape h.oo
  subst hvo
  have hL:=h.openLen
  have hl:0<(fw++fo).length:=by
    rcases hno with e|e
    · obtain⟨f,e,_⟩:=h.things.word e;rw[e];simp
    · have:=List.length_pos_iff.2 e
      have h1:=h.things.len
      simp;omega
  have HAT:=V h.atIs
  have hc:=h.blk.cell
  unfold cpArr at hc
  clear h
  generalize (fw++fo).length=L at *
  have hlI:(0:Int)<L:=by omega
  go_enter Tryz.func147,Tryz.ntmps147
  go_wp2_with fail
  go_ret
  exact Took.fail h0 (by decide) (U HAT) (Below.refl _ _)
theorem cdef_bad (B:Nat) (x:CX) (st:RS) (w:World) (h:CpE B w x st) (m:Nat) (hi:Inv st m) (k:Int) (hs:st.start<0) (hop:st.opens=[]) (h0:st.err=0) (hB:6≤B) (hV:VocOk w) (hE:ErrsOk w) (hbad:badName (stepS st)=true) :
    Calls Tryz.prog 147 #[.pointer (some ⟨x.b,0,none⟩),.int .i64 k] w (Took B w x (failS (stepS st) 3)):=by
  have HN:=V (cnext_any B x st w h hi.next)
  have hsz:(stepS st).token.size≤2000:=by have:=stepS_token_size st;have:=hi.size;omega
  have hml:=may_link (stepS st)
  rw[hbad]at hml
  have HM:Hid (∀ w1,CpE B w1 x (stepS st)→Below B w w1→Calls Tryz.prog 193 #[.pointer (some ⟨x.b,0,none⟩),.string (stepS st).token] w1 (fun e w'=>e=.returned (.bool false)∧Below w1.heap.size w1 w')):=by
    intro w1 h1 hb
    have:=mayBeName_any B x (stepS st) w1 h1 (stepS st).token hsz (hV.low hB hb) (hE.low hB hb)
    rw[hml]at this
    exact this
  obtain⟨s0,vd,vm,vo,fw,fo,h⟩:=h
  obtain rfl:=h.things.none hs
  have hfo:fo=[]:=by have:=h.things.len;rw[hop]at this;simpa using this
  subst hfo
  obtain⟨ao,co,hvo⟩:=own_shape h.oo
  subst hvo
  have hc:=h.blk.cell
  unfold cpArr at hc
  have h0':(stepS st).err=0:=h0
  have HE0:=V h0'
  clear h hbad hml h0 h0' hV hE
  generalize hu:stepS st=u at *
  clear hu
  go_enter Tryz.func147,Tryz.ntmps147
  go_wp2_with fail
  refine (U HN).mono ?_
  rintro e w1 ⟨rfl,h1,hb1⟩
  have HM1:=V (U HM w1 h1 hb1)
  have H1:=V (And.intro h1 hb1)
  clear h1 hb1 HM HN hc
  go_wp2_with fail
  refine (U HM1).mono ?_
  rintro e w2 ⟨rfl,hb2⟩
  have H2:=V hb2
  clear hb2
  go_wp2_with fail
  go_ret
  obtain⟨h1,hb1⟩:=U H1
  exact Took.fail (U HE0) (by decide) ((h1.below (U H2)).atIs) (hb1.trans (below_less (U H2) h1.size))
theorem cdef_colon (B:Nat) (x:CX) (st:RS) (w:World) (h:CpE B w x st) (m:Nat) (hi:Inv st m) (hs:st.start<0) (hop:st.opens=[]) (h0:st.err=0) (hB:6≤B) (hV:VocOk w) (hE:ErrsOk w) (hbad:badName (stepS st)=false) :
    Calls Tryz.prog 147 #[.pointer (some ⟨x.b,0,none⟩),.int .i64 1] w (Took B w x (colonS (stepS st) (stepS st).token)):=by
  have HN:=V (cnext_any B x st w h hi.next)
  have hsz:(stepS st).token.size≤2000:=by have:=stepS_token_size st;have:=hi.size;omega
  have hml:=may_link (stepS st)
  rw[hbad]at hml
  have HM:Hid (∀ w1,CpE B w1 x (stepS st)→Below B w w1→Calls Tryz.prog 193 #[.pointer (some ⟨x.b,0,none⟩),.string (stepS st).token] w1 (fun e w'=>e=.returned (.bool true)∧Below w1.heap.size w1 w')):=by
    intro w1 h1 hb
    have:=mayBeName_any B x (stepS st) w1 h1 (stepS st).token hsz (hV.low hB hb) (hE.low hB hb)
    rw[hml]at this
    exact this
  have HO:Hid (∀ w1,CpE B w1 x (stepS st)→Calls Tryz.prog 194 #[.pointer (some ⟨x.b,0,none⟩),.string (stepS st).token] w1 fun e w'=>e=.returned (.tuple #[])∧CpE B w' x (colonS (stepS st) (stepS st).token)∧BoxStill w1 w'∧Below B w1 w'):=fun w1 h1=>openWord_any B x (stepS st) w1 h1 _ hs hop
  obtain⟨s0,vd,vm,vo,fw,fo,h⟩:=h
  obtain rfl:=h.things.none hs
  have hfo:fo=[]:=by have:=h.things.len;rw[hop]at this;simpa using this
  subst hfo
  obtain⟨ao,co,hvo⟩:=own_shape h.oo
  subst hvo
  have hc:=h.blk.cell
  unfold cpArr at hc
  have h0':(colonS (stepS st) (stepS st).token).err=0:=h0
  have HE0:=V h0'
  clear h hbad hml h0 h0' hV hE
  generalize hu:stepS st=u at *
  clear hu
  go_enter Tryz.func147,Tryz.ntmps147
  go_wp2_with fail
  refine (U HN).mono ?_
  rintro e w1 ⟨rfl,h1,hb1⟩
  have HM1:=V (U HM w1 h1 hb1)
  have H1:=V (And.intro h1 hb1)
  clear h1 hb1 HM HN hc
  go_wp2_with fail
  refine (U HM1).mono ?_
  rintro e w2 ⟨rfl,hb2⟩
  have H2:=V hb2
  clear hb2
  go_wp2_with fail
  refine (U HO w2 ((U H1).1.below (U H2))).mono ?_
  rintro e w3 ⟨rfl,h3,_,hb3⟩
  have H3:=V (And.intro h3 hb3)
  clear h3 hb3 HO
  go_wp2_with fail
  go_ret
  obtain⟨h1,hb1⟩:=U H1
  exact Took.ok (U HE0) (U H3).1 ((hb1.trans (below_less (U H2) h1.size)).trans (U H3).2)
section
variable {B:Nat} {w w' w1:World} {x:CX} {st:RS} {hx:Nat} {s0:Int} {vd vm vo:Value} {fs fw fo:List Value}
theorem Cr.setC (h:Cr B w x st hx s0 vd vm vo fs) (c:Int):Cr B (w.setCell ⟨x.b,7,none⟩ (.int .i64 c)) x { st with cells:=c } hx s0 vd vm vo fs∧BoxStill w (w.setCell ⟨x.b,7,none⟩ (.int .i64 c))∧Below B w (w.setCell ⟨x.b,7,none⟩ (.int .i64 c)):=by
  refine⟨⟨?_,h.rdr.far h.ne.1 _,h.dp.far h.ne.2.1 _,h.mn.far h.ne.2.2.1 _,h.dm,h.base,h.owned.set (by simp) 7 _,h.names.to (Below.heap_setCell _ _ _ _ h.ne.2.2.2),h.small⟩,?_,(Below.refl B w).setCell h.base.1 _⟩
  · have:=h.blk.set 7 (.int .i64 c)
    unfold crArr at this
    simp only[List.setIfInBounds_toArray,List.set_cons_succ,List.set_cons_zero]at this
    exact this
  · refine fun k cs T hb ht=>hb.far ?_ _
    intro e
    simp at e
    subst e
    have:=Cr.bl h.blk hb
    subst this
    rcases ht with e|e|e<;>exact absurd e (by decide)
theorem Cr.bare (h:Cr B w x st x.m s0 vd vm vo []) (hs:st.start<0) (hop:st.opens=[]):CpE B w x st:=by
  have e:hereX x st=x.m:=by unfold hereX;exact if_neg (by omega)
  refine⟨s0,vd,vm,vo,[],[],Cr.cp (fw:=[]) (fo:=[]) ?_ (fun h=>by omega) ⟨fun h=>by omega,fun _=>rfl,by rw[hop];rfl,fun i f o h1 _=>by simp at h1⟩⟩
  rw[e]
  exact h
theorem CpE.bare (h:CpE B w x st) (hs:st.start<0) (hop:st.opens=[]):∃ s0 vd vm ao co,Cr B w x st x.m s0 vd vm (.slice ao 0 co) []:=by
  obtain⟨s0,vd,vm,vo,fw,fo,h⟩:=h
  obtain rfl:=h.things.none hs
  have hfo:fo=[]:=by have:=h.things.len;rw[hop]at this;simpa using this
  subst hfo
  obtain⟨ao,co,hvo⟩:=own_shape h.oo
  subst hvo
  have e:hereX x st=x.m:=by unfold hereX;exact if_neg (by omega)
  have hr:=h.raw
  rw[e]at hr
  exact⟨s0,vd,vm,ao,co,hr⟩
end
theorem cdef_variable (B:Nat) (x:CX) (st:RS) (w:World) (h:CpE B w x st) (m:Nat) (hi:Inv st m) (hm:m<3000) (hs:st.start<0) (hop:st.opens=[]) (h0:st.err=0) (hB:6≤B) (hV:VocOk w) (hE:ErrsOk w) (hbad:badName (stepS st)=false) (hnew:(stepS st).names.find? (fun x=>x.1 == (stepS st).token)=none) :
    Calls Tryz.prog 147 #[.pointer (some ⟨x.b,0,none⟩),.int .i64 2] w (Took B w x (variableS (stepS st) (stepS st).token)):=by
  have HN:=V (cnext_any B x st w h hi.next)
  have hsz:(stepS st).token.size≤2000:=by have:=stepS_token_size st;have:=hi.size;omega
  have hml:=may_link (stepS st)
  rw[hbad]at hml
  have hcl:0≤(stepS st).cells∧(stepS st).cells≤3000:=by have:=hi.lens;unfold lens at this;show 0≤st.cells∧st.cells≤3000;omega
  have hnl:(stepS st).names.length<4000:=by have:=hi.lens;unfold lens at this;show st.names.length<4000;omega
  have HM:Hid (∀ w1,CpE B w1 x (stepS st)→Below B w w1→Calls Tryz.prog 193 #[.pointer (some ⟨x.b,0,none⟩),.string (stepS st).token] w1 (fun e w'=>e=.returned (.bool true)∧Below w1.heap.size w1 w')):=by
    intro w1 h1 hb
    have:=mayBeName_any B x (stepS st) w1 h1 (stepS st).token hsz (hV.low hB hb) (hE.low hB hb)
    rw[hml]at this
    exact this
  have hs':(stepS st).start<0:=hs
  have hop':(stepS st).opens=[]:=hop
  obtain⟨s0,vd,vm,ao,co,hr⟩:=h.bare hs hop
  have hc:=hr.blk.cell
  unfold crArr at hc
  have h0':(stepS st).err=0:=h0
  have HE0:=V h0'
  have HS:=V (And.intro hs' hop')
  have HNW:=V (And.intro hnew (And.intro hsz hnl))
  clear h hr hbad hml h0 h0' hV hE hs' hop' hs hop hi hnew hsz hnl
  generalize hu:stepS st=u at *
  clear hu
  go_enter Tryz.func147,Tryz.ntmps147
  go_wp2_with fail
  refine (U HN).mono ?_
  rintro e w1 ⟨rfl,h1,hb1⟩
  have HM1:=V (U HM w1 h1 hb1)
  have H1:=V (And.intro h1 hb1)
  clear h1 hb1 HM HN hc
  go_wp2_with fail
  refine (U HM1).mono ?_
  rintro e w2 ⟨rfl,hb2⟩
  clear HM1
  obtain⟨h1,hb1⟩:=U H1
  have h2:=h1.below hb2
  have hbw2:Below B w w2:=hb1.trans (below_less hb2 h1.size)
  obtain⟨s0,vd,vm,ao,co,hr2⟩:=h2.bare (U HS).1 (U HS).2
  obtain⟨hnew,hsz,hnl⟩:=U HNW
  have HUP:=V (updW B x u w2 x.m s0 vd vm (.slice ao 0 co) [] hr2 u.token 0 u.cells hsz hnl hnew)
  have hc2:=hr2.blk.cell
  unfold crArr at hc2
  have hxl:=hr2.blk.lt
  have hxa:x.b<w2.heap.size+1:=by omega
  have hxb:x.b≤w2.heap.size:=by omega
  have H2:=V hbw2
  clear hbw2 h2 h1 hb1 hb2 hr2 hnew hsz hnl H1 HNW
  generalize hce:u.cells=c at *
  have HCE:=V hce
  clear hce
  have hwr:IntKind.i64.wrap (c+1)=c+1:=by rw[IntKind.wrap_i64];omega
  go_wp2_with fail
  go_cut [] from 8 to 62 (fun wd=>Cr B wd x { u with names:=u.names++[(u.token,0,c)],cells:=c } x.m s0 vd vm (.slice ao 0 co) []∧BoxStill w2 wd∧Below B w2 wd)
  case first =>
    obtain⟨w3,hrun,h3⟩:=U HUP (w2.alloc (.cells #[.int .i64 0,.int .i64 c] 65)).drew (by (repeat (first|with_reducible refine below_drew ?_|with_reducible refine below_drawn ?_ _|with_reducible refine below_longer ?_ _|(with_reducible refine Below.alloc ?_ ?_ _;rotate_left;(first|omega|((repeat (first|rw[World.size_up]|rw[World.size_dr]|rw[World.size_drN]))<;>omega)))));(with_reducible exact Below.refl _ _))
    have H3:=V h3
    clear h3 HUP
    go_region_law (refine step_call rfl 77 #[.const (.int .i64 0),.tmp 36] #[3,2] rfl Tryz.func77 Tryz.name77 Tryz.body77 #[.int .i64 0,.int .i64 c] (by first|(simp[Act.eval];done)|(simp[Act.eval,Act.put];done)|rfl) (withI_any 0 c _) ?_;rintro e w1 ⟨rfl,rfl⟩;refine⟨_,rfl,?_⟩)
    all_goals
      go_wp2_with fail
      go_meet
      exact U H3
  case rest =>
    obtain⟨hr3,_,hb3⟩:=hcut
    have hc3:=hr3.blk.cell
    have hf3:=hr3.blk.free
    unfold crArr at hc3
    have H3:=V (And.intro hr3 hb3)
    clear hr3 hb3 hc2 HUP
    go_wp2_with fail
    go_ret
    obtain⟨hr3,hb3⟩:=U H3
    obtain⟨k1,_,k3⟩:=hr3.setC (c+1)
    have e:variableS u u.token={ u with names:=u.names++[(u.token,0,c)],cells:=c+1 }:=by unfold variableS;rw[U HCE]
    rw[e]
    exact Took.ok (U HE0) (k1.bare (U HS).1 (U HS).2) ((U H2).trans (hb3.trans k3))
theorem constant_yes {u:RS} (h:(numS (stepS u).token).isSome=true) (t:ByteArray):constantS u t={ stepS u with names:=(stepS u).names++[(t,0,numV (stepS u).token)] }:=by
  unfold constantS constant3
  rw[if_pos h]
theorem constant_no {u:RS} (h:(numS (stepS u).token).isSome=false) (h0:u.err=0) (t:ByteArray):(constantS u t).err=3∧(constantS u t).place=((stepS u).place0:Int):=by
  have h0':(stepS u).err=0:=h0
  unfold constantS constant3 failS
  rw[if_neg (by rw[h];simp),if_pos h0']
  exact⟨rfl,rfl⟩
theorem cdef_constant (B:Nat) (x:CX) (st:RS) (w:World) (h:CpE B w x st) (m:Nat) (hi:Inv st m) (hm:m<3000) (hs:st.start<0) (hop:st.opens=[]) (h0:st.err=0) (hB:6≤B) (hV:VocOk w) (hE:ErrsOk w) (hbad:badName (stepS st)=false) (hnew:(stepS st).names.find? (fun x=>x.1 == (stepS st).token)=none) :
    Calls Tryz.prog 147 #[.pointer (some ⟨x.b,0,none⟩),.int .i64 3] w (Took B w x (constantS (stepS st) (stepS st).token)):=by
  have HN:=V (cnext_any B x st w h hi.next)
  have hsz:(stepS st).token.size≤2000:=by have:=stepS_token_size st;have:=hi.size;omega
  have hsz2:(stepS (stepS st)).token.size≤2000:=by have:=stepS_token_size (stepS st);have:=(stepS_inv hi).1.size;omega
  have hml:=may_link (stepS st)
  rw[hbad]at hml
  have hnl:(stepS st).names.length<4000:=by have:=hi.lens;unfold lens at this;show st.names.length<4000;omega
  have hnx:(stepS st).next≤(stepS st).s.size:=(stepS_inv hi).1.next
  have HM:Hid (∀ w1,CpE B w1 x (stepS st)→Below B w w1→Calls Tryz.prog 193 #[.pointer (some ⟨x.b,0,none⟩),.string (stepS st).token] w1 (fun e w'=>e=.returned (.bool true)∧Below w1.heap.size w1 w')):=by
    intro w1 h1 hb
    have:=mayBeName_any B x (stepS st) w1 h1 (stepS st).token hsz (hV.low hB hb) (hE.low hB hb)
    rw[hml]at this
    exact this
  have HN2:Hid (∀ w1,CpE B w1 x (stepS st)→Calls Tryz.prog 48 #[.pointer (some ⟨x.b,0,none⟩)] w1 fun e w'=>e=.returned (.string (stepS (stepS st)).token)∧CpE B w' x (stepS (stepS st))∧Below B w1 w'):=fun w1 h1=>cnext_any B x (stepS st) w1 h1 hnx
  have HNUM:Hid (∀ w1,Below B w w1→Calls Tryz.prog 76 #[.string (stepS (stepS st)).token] w1 fun e w'=>e=.returned (.tuple #[.int .i64 (numV (stepS (stepS st)).token),.bool (numS (stepS (stepS st)).token).isSome])∧Below w1.heap.size w1 w'):=fun w1 hb=>tokNumber_any _ w1 hsz2 (hE.low hB hb)
  have hs':(stepS st).start<0:=hs
  have hop':(stepS st).opens=[]:=hop
  obtain⟨s0,vd,vm,ao,co,hr⟩:=h.bare hs hop
  have hc:=hr.blk.cell
  unfold crArr at hc
  have h0':(stepS st).err=0:=h0
  have HE0:=V h0'
  have HS:=V (And.intro hs' hop')
  have HNW:=V (And.intro hnew (And.intro hsz hnl))
  clear h hr hbad hml h0 h0' hV hE hs' hop' hs hop hi hnew hsz hnl hnx hsz2
  generalize hu:stepS st=u at *
  clear hu
  go_enter Tryz.func147,Tryz.ntmps147
  go_wp2_with fail
  refine (U HN).mono ?_
  rintro e w1 ⟨rfl,h1,hb1⟩
  have HM1:=V (U HM w1 h1 hb1)
  have H1:=V (And.intro h1 hb1)
  clear h1 hb1 HM HN hc
  go_wp2_with fail
  refine (U HM1).mono ?_
  rintro e w2 ⟨rfl,hb2⟩
  have HN3:=V (U HN2 w2 ((U H1).1.below hb2))
  have H2:=V ((U H1).2.trans (below_less hb2 (U H1).1.size))
  clear HM1 H1 hb2 HN2
  go_wp2_with fail
  refine (U HN3).mono ?_
  rintro e w3 ⟨rfl,h3,hb3⟩
  have HNUM3:=V (U HNUM w3 ((U H2).trans hb3))
  have H3:=V (And.intro h3 ((U H2).trans hb3))
  clear HN3 h3 hb3 H2 HNUM
  go_wp2_with fail
  refine (U HNUM3).mono ?_
  rintro e w4 ⟨rfl,hb4⟩
  have h4:=(U H3).1.below hb4
  have hbw4:Below B w w4:=(U H3).2.trans (below_less hb4 (U H3).1.size)
  clear HNUM3 H3 hb4
  cases hnum:(numS (stepS u).token).isSome
  · have HA:=V (And.intro h4.atIs hbw4)
    have HCN:=V (constant_no hnum (U HE0) u.token)
    clear h4 hbw4 hnum
    generalize numV (stepS u).token=nv at *
    go_wp2_with fail
    go_ret
    obtain⟨e1,e2⟩:=U HCN
    exact⟨by rw[e1];rfl,fun e=>by rw[e1]at e;exact absurd e (by decide),fun _=>⟨_,e2,(U HA).1⟩,(U HA).2⟩
  · obtain⟨s0,vd,vm,ao,co,hr4⟩:=h4.bare (U HS).1 (U HS).2
    obtain⟨hnew,hsz,hnl⟩:=U HNW
    have HUP:=V (updW B x (stepS u) w4 x.m s0 vd vm (.slice ao 0 co) [] hr4 u.token 0 (numV (stepS u).token) hsz hnl hnew)
    have hc4:=hr4.blk.cell
    unfold crArr at hc4
    have hxl:=hr4.blk.lt
    have hxa:x.b<w4.heap.size+1:=by omega
    have hxb:x.b≤w4.heap.size:=by omega
    have HY:=V (constant_yes hnum u.token)
    have H4:=V hbw4
    clear hbw4 h4 hr4 hnew hsz hnl HNW hnum
    generalize hnv:numV (stepS u).token=nv at *
    have HNV:=V hnv
    clear hnv
    go_wp2_with fail
    obtain⟨w5,hrun,h5⟩:=U HUP (w4.alloc (.cells #[.int .i64 0,.int .i64 nv] 65)).drew (by (repeat (first|with_reducible refine below_drew ?_|with_reducible refine below_drawn ?_ _|with_reducible refine below_longer ?_ _|(with_reducible refine Below.alloc ?_ ?_ _;rotate_left;(first|omega|((repeat (first|rw[World.size_up]|rw[World.size_dr]|rw[World.size_drN]))<;>omega)))));(with_reducible exact Below.refl _ _))
    have H5:=V h5
    clear h5 HUP
    go_region_law (refine step_call rfl 77 #[.const (.int .i64 0),.tmp 60] #[3,2] rfl Tryz.func77 Tryz.name77 Tryz.body77 #[.int .i64 0,.int .i64 nv] (by first|(simp[Act.eval];done)|(simp[Act.eval,Act.put];done)|rfl) (withI_any 0 nv _) ?_;rintro e w1 ⟨rfl,rfl⟩;refine⟨_,rfl,?_⟩)
    all_goals
      go_wp2_with fail
      go_ret
      obtain⟨hr5,_,hb5⟩:=U H5
      rw[U HY]
      exact Took.ok (U HE0) (hr5.bare (U HS).1 (U HS).2) ((U H4).trans hb5)
theorem openBegin_any (B:Nat) (x:CX) (st:RS) (w:World) (h:CpE B w x st) (hop:st.opens.length<3980) :
    Calls Tryz.prog 144 #[.pointer (some ⟨x.b,0,none⟩)] w fun e w'=>e=.returned (.tuple #[])∧CpE B w' x (openS st (⟨#[98,101,103,105,110]⟩,hereS st,0))∧BoxStill w w'∧Below B w w':=by
  obtain⟨fw,fo,h⟩:=h.f
  have hb0:Below w.heap.size w (w.alloc (.cells #[.pointer (some ⟨x.b,0,none⟩)] 91)):=by (repeat (first|with_reducible refine below_drew ?_|with_reducible refine below_drawn ?_ _|with_reducible refine below_longer ?_ _|(with_reducible refine Below.alloc ?_ ?_ _;rotate_left;(first|omega|((repeat (first|rw[World.size_up]|rw[World.size_dr]|rw[World.size_drN]))<;>omega)))));(with_reducible exact Below.refl _ _)
  have hcb:Blk (w.alloc (.cells #[.pointer (some ⟨x.b,0,none⟩)] 91)) w.heap.size #[.pointer (some ⟨x.b,0,none⟩)] 91:=by (repeat (first|with_reducible refine Blk.drew ?_|with_reducible refine Blk.drewN ?_ _|(with_reducible refine blk_newAt _ _ ?_;(first|omega|((repeat (first|rw[World.size_up]|rw[World.size_dr]|rw[World.size_drN]))<;>omega)))|with_reducible refine Blk.alloc ?_ _));(first|done|with_reducible assumption)
  have h0:=h.below hb0
  have hB:=h.size
  obtain⟨s0,vo,hblk⟩:=h0.blk
  have hc:=hblk.cell
  have hxl:=h.size0
  have hxa0:x.b<w.heap.size:=by omega
  have hxb0:x.b≤w.heap.size:=by omega
  have hxa1:x.b<w.heap.size+1:=by omega
  have hxb1:x.b≤w.heap.size+1:=by omega
  have hxa2:x.b<w.heap.size+1+1:=by omega
  have hxb2:x.b≤w.heap.size+1+1:=by omega
  have hxa3:x.b<w.heap.size+1+1+1:=by omega
  have hxb3:x.b≤w.heap.size+1+1+1:=by omega
  have hxa4:x.b<w.heap.size+1+1+1+1:=by omega
  have hxb4:x.b≤w.heap.size+1+1+1+1:=by omega
  have hxa5:x.b<w.heap.size+1+1+1+1+1:=by omega
  have hxb5:x.b≤w.heap.size+1+1+1+1+1:=by omega
  unfold cpArr at hc
  have H0:=V h0
  have hsz:(w.alloc (.cells #[.pointer (some ⟨x.b,0,none⟩)] 91)).heap.size=w.heap.size+1:=by simp
  have hcc:=hcb.cell
  have HCB:=V hcb
  have HB0:=V hb0
  clear hblk hcb hb0 h h0
  have HNX:=V (nextF_any B x st _ (U H0).e)
  generalize hhx:hereX x st=hx at *
  have HHX:=V hhx
  clear hhx
  go_enter Tryz.func144,Tryz.ntmps144
  go_wp2_with fail
  refine (U HNX).mono ?_
  rintro e w1 ⟨rfl,rfl⟩
  generalize w.alloc (.cells #[.pointer (some ⟨x.b,0,none⟩)] 91)=W0 at *
  go_wp2_with fail
  have hb1:Below W0.heap.size W0 (W0.alloc (.cells #[.int .i64 (hereS st)] 2)):=by (repeat (first|with_reducible refine below_drew ?_|with_reducible refine below_drawn ?_ _|with_reducible refine below_longer ?_ _|(with_reducible refine Below.alloc ?_ ?_ _;rotate_left;(first|omega|((repeat (first|rw[World.size_up]|rw[World.size_dr]|rw[World.size_drN]))<;>omega)))));(with_reducible exact Below.refl _ _)
  have e1:(W0.alloc (.cells #[.int .i64 (hereS st)] 2)).heap.size=w.heap.size+1+1:=by rw[World.size_up,hsz]
  have hcb1:=(U HCB).alloc (.cells #[.int .i64 (hereS st)] 2)
  have hp:=pushW B x st (W0.alloc (.cells #[.int .i64 (hereS st)] 2)) ((U H0).below hb1).e (.func (.func 190) #[] #[.pointer (some ⟨w.heap.size,0,none⟩),.pointer (some ⟨w.heap.size+1,0,none⟩)]) rfl (⟨#[98,101,103,105,110]⟩,hereS st,0) ⟨_,hcb1,Or.inr (Or.inr (Or.inl ⟨rfl,_,(by (repeat (first|with_reducible refine Blk.drew ?_|with_reducible refine Blk.drewN ?_ _|(with_reducible refine blk_newAt _ _ ?_;(first|omega|((repeat (first|rw[World.size_up]|rw[World.size_dr]|rw[World.size_drN]))<;>omega)))|with_reducible refine Blk.alloc ?_ _));(first|done|with_reducible assumption)),rfl⟩))⟩ (by omega)
  rw[e1]at hp
  refine hp.mono ?_
  rintro e w2 ⟨rfl,k1,k2,k3⟩
  clear hp hcb1
  have HB1:=V hb1
  clear hb1
  go_wp2_with fail
  go_end0
  exact⟨rfl,k1,(BoxStill.ofBelow (U HB0)).trans ((BoxStill.ofBelow (U HB1)).trans k2),(below_less (U HB0) (by omega)).trans ((below_less (U HB1) (by omega)).trans k3)⟩
theorem openDo_any (B:Nat) (x:CX) (st:RS) (w:World) (h:CpE B w x st) (hlen:hereS st<4000) (hop:st.opens.length<3980) :
    Calls Tryz.prog 145 #[.pointer (some ⟨x.b,0,none⟩)] w fun e w'=>e=.returned (.tuple #[])∧CpE B w' x (openS (putS st 6 0) (⟨#[100,111]⟩,(hereS st:Int)+1,0))∧BoxStill w w'∧Below B w w':=by
  obtain⟨fw,fo,h⟩:=h.f
  have hb0:Below w.heap.size w (w.alloc (.cells #[.pointer (some ⟨x.b,0,none⟩)] 91)):=by (repeat (first|with_reducible refine below_drew ?_|with_reducible refine below_drawn ?_ _|with_reducible refine below_longer ?_ _|(with_reducible refine Below.alloc ?_ ?_ _;rotate_left;(first|omega|((repeat (first|rw[World.size_up]|rw[World.size_dr]|rw[World.size_drN]))<;>omega)))));(with_reducible exact Below.refl _ _)
  have hcb:Blk (w.alloc (.cells #[.pointer (some ⟨x.b,0,none⟩)] 91)) w.heap.size #[.pointer (some ⟨x.b,0,none⟩)] 91:=by (repeat (first|with_reducible refine Blk.drew ?_|with_reducible refine Blk.drewN ?_ _|(with_reducible refine blk_newAt _ _ ?_;(first|omega|((repeat (first|rw[World.size_up]|rw[World.size_dr]|rw[World.size_drN]))<;>omega)))|with_reducible refine Blk.alloc ?_ _));(first|done|with_reducible assumption)
  have h0:=h.below hb0
  have hB:=h.size
  obtain⟨s0,vo,hblk⟩:=h0.blk
  have hc:=hblk.cell
  have hxl:=h.size0
  have hxa0:x.b<w.heap.size:=by omega
  have hxb0:x.b≤w.heap.size:=by omega
  have hxa1:x.b<w.heap.size+1:=by omega
  have hxb1:x.b≤w.heap.size+1:=by omega
  have hxa2:x.b<w.heap.size+1+1:=by omega
  have hxb2:x.b≤w.heap.size+1+1:=by omega
  have hxa3:x.b<w.heap.size+1+1+1:=by omega
  have hxb3:x.b≤w.heap.size+1+1+1:=by omega
  have hxa4:x.b<w.heap.size+1+1+1+1:=by omega
  have hxb4:x.b≤w.heap.size+1+1+1+1:=by omega
  have hxa5:x.b<w.heap.size+1+1+1+1+1:=by omega
  have hxb5:x.b≤w.heap.size+1+1+1+1+1:=by omega
  unfold cpArr at hc
  have HADD:=V (addW B x st _ fw fo h0 6 0 hlen)
  have H0:=V h0
  have hsz:(w.alloc (.cells #[.pointer (some ⟨x.b,0,none⟩)] 91)).heap.size=w.heap.size+1:=by simp
  have hcc:=hcb.cell
  have HCB:=V hcb
  have HB0:=V hb0
  clear hblk hcb hb0 h h0
  generalize hhx:hereX x st=hx at *
  have HHX:=V hhx
  clear hhx
  go_enter Tryz.func145,Tryz.ntmps145
  go_wp2_with fail
  generalize w.alloc (.cells #[.pointer (some ⟨x.b,0,none⟩)] 91)=W0 at *
  go_cut [] from 3 to 19 (fun wc=>CpF B wc x (putS st 6 0) fw fo∧Things W0 x.b st fw fo∧BoxStill W0 wc∧Below B W0 wc)
  case first =>
    go_region_law (first
      | (refine step_call rfl 51 #[.const (.int .i64 6)] #[3] rfl Tryz.func51 Tryz.name51 Tryz.body51 #[.int .i64 6] (by first|(simp[Act.eval];done)|rfl) (plainI_any 6 _) ?_;rintro e w1 ⟨rfl,rfl⟩;refine⟨_,rfl,?_⟩)
      | (refine step_call rfl 50 #[.tmp 6,.tmp 8] #[96,33] rfl Tryz.func50 Tryz.name50 Tryz.body50 #[.pointer (some ⟨hx,0,none⟩),.slice (some ⟨w.heap.size+1+1,0,none⟩) 1 1] (by first|(simp[Act.eval];done)|rfl) (U HADD _ (w.heap.size+1+1) (by (repeat (first|with_reducible refine below_drew ?_|with_reducible refine below_drawn ?_ _|with_reducible refine below_longer ?_ _|(with_reducible refine Below.alloc ?_ ?_ _;rotate_left;(first|omega|((repeat (first|rw[World.size_up]|rw[World.size_dr]|rw[World.size_drN]))<;>omega)))));(with_reducible exact Below.refl _ _)) (by (repeat (first|with_reducible refine Blk.drew ?_|with_reducible refine Blk.drewN ?_ _|(with_reducible refine blk_newAt _ _ ?_;(first|omega|((repeat (first|rw[World.size_up]|rw[World.size_dr]|rw[World.size_drN]))<;>omega)))|with_reducible refine Blk.alloc ?_ _));(first|done|with_reducible assumption))) ?_;rintro e w1 ⟨rfl,h2,h1⟩;refine⟨_,rfl,?_⟩;skip;have H1:=V h1;clear h1 h2))
    all_goals
      go_wp2_with fail
      go_meet
      exact U H1
  case rest =>
    obtain⟨hF,hT,hbx,hbl⟩:=hcut
    have hcb:=hbx _ _ _ (U HCB) (Or.inl rfl)
    have hcc2:=hcb.cell
    have hnx:=nextF_any B x (putS st 6 0) wc hF.e
    rw[hereX_put,U HHX,hereS_put,show ((hereS st+1:Nat):Int)=(hereS st:Int)+1 by omega]at hnx
    obtain⟨s1,vo1,hblk1⟩:=hF.blk
    have hc1:=hblk1.cell
    unfold cpArr at hc1
    rw[hereX_put,U HHX]at hc1
    have HNX:=V hnx
    have H1:=V (And.intro hcb (And.intro hF (And.intro hbx hbl)))
    clear hF hT hbx hbl hcb hcc hc HADD hnx hblk1
    have hwl:w.heap.size<wc.heap.size:=by have:=(U H1).1.lt;exact this
    go_wp2_with fail
    refine (U HNX).mono ?_
    rintro e w1 ⟨rfl,rfl⟩
    go_wp2_with fail
    have hb1:Below w1.heap.size w1 (w1.alloc (.cells #[.int .i64 ((hereS st:Int)+1)] 2)):=by (repeat (first|with_reducible refine below_drew ?_|with_reducible refine below_drawn ?_ _|with_reducible refine below_longer ?_ _|(with_reducible refine Below.alloc ?_ ?_ _;rotate_left;(first|omega|((repeat (first|rw[World.size_up]|rw[World.size_dr]|rw[World.size_drN]))<;>omega)))));(with_reducible exact Below.refl _ _)
    have e1:(w1.alloc (.cells #[.int .i64 ((hereS st:Int)+1)] 2)).heap.size=w1.heap.size+1:=by rw[World.size_up]
    obtain⟨hcb,hF,hbx,hbl⟩:=U H1
    have hcb1:=hcb.alloc (.cells #[.int .i64 ((hereS st:Int)+1)] 2)
    have hp:=pushW B x (putS st 6 0) (w1.alloc (.cells #[.int .i64 ((hereS st:Int)+1)] 2)) (hF.below hb1).e (.func (.func 192) #[] #[.pointer (some ⟨w.heap.size,0,none⟩),.pointer (some ⟨w1.heap.size,0,none⟩)]) rfl (⟨#[100,111]⟩,(hereS st:Int)+1,0) ⟨_,hcb1,Or.inr (Or.inr (Or.inr (Or.inr ⟨rfl,_,(by (repeat (first|with_reducible refine Blk.drew ?_|with_reducible refine Blk.drewN ?_ _|(with_reducible refine blk_newAt _ _ ?_;(first|omega|((repeat (first|rw[World.size_up]|rw[World.size_dr]|rw[World.size_drN]))<;>omega)))|with_reducible refine Blk.alloc ?_ _));(first|done|with_reducible assumption)),rfl⟩)))⟩ (by rw[(putS_as _ _ _).2.2];omega)
    rw[e1]at hp
    refine hp.mono ?_
    rintro e w2 ⟨rfl,k1,k2,k3⟩
    have HB1:=V hb1
    clear hp hcb1 hcb hF hbx hbl hb1 hcc2 hc1
    go_wp2_with fail
    go_end0
    obtain⟨hcb,hF,hbx,hbl⟩:=U H1
    have hsF:=hF.size
    exact⟨rfl,k1,(BoxStill.ofBelow (U HB0)).trans (hbx.trans ((BoxStill.ofBelow (U HB1)).trans k2)),(below_less (U HB0) (by omega)).trans (hbl.trans ((below_less (U HB1) (by omega)).trans k3))⟩
end Go.Proofs.YtmeiikjpaepogaaGreatDoor
