/- The program's compiler: take. -/
import Derived.Test.YtmeiikjpaepogaaGreatDoorN14
import Derived.Test.YtmeiikjpaepogaaGreatDoorN10
import Derived.Deep.CutRange
set_option maxRecDepth 100000
set_option maxHeartbeats 4000000
namespace Go.Proofs.YtmeiikjpaepogaaGreatDoor
open Go Go.RowKit
theorem take_mean (B:Nat) (x:CX) (w:World) (hB:B≤w.heap.size) (t:ByteArray) (y:ByteArray×Int×Int) (hy:meanS t=some y) (hV:VocOk w) (r:RS)
    (hcall:∀ W:World,Below w.heap.size w W→Calls Tryz.prog 75 #[.pointer (some ⟨x.b,0,none⟩),.agg #[.string y.1,.int .i64 y.2.1,.int .i64 y.2.2]] W (Took B W x r)) :
    Calls Tryz.prog 49 #[.pointer (some ⟨x.b,0,none⟩),.string t] w (Took B w x r):=by
  have HM:=V (meaning_any t w hV)
  have hv:meanV t=.agg #[.string y.1,.int .i64 y.2.1,.int .i64 y.2.2]:=by unfold meanV;rw[hy]
  have hs:(meanS t).isSome=true:=by rw[hy];rfl
  rw[hv,hs]at HM
  obtain⟨y1,y2,y3⟩:=y
  have HC:=V hcall
  simp only at HC HM
  clear hcall hv hs hy hV
  go_enter Tryz.func49,Tryz.ntmps49
  go_wp2_with fail
  refine (U HM).mono ?_
  rintro e w1 ⟨rfl,hb1⟩
  have HB1:=V hb1
  clear hb1 HM
  go_wp2_with fail
  have hb2:Below w.heap.size w (w1.alloc (.cells #[.string y1,.int .i64 y2,.int .i64 y3] 146)):=(U HB1).alloc (by have:=(U HB1).size;omega) _
  have HB2:=V hb2
  refine (U HC _ hb2).mono ?_
  rintro e w2 ⟨rfl,h1,h2,h3⟩
  have H1:=V (And.intro h1 (And.intro h2 h3))
  clear h1 h2 h3 HC hb2
  go_wp2_with fail
  go_ret
  exact⟨rfl,(U H1).1,(U H1).2.1,(below_less (U HB2) hB).trans (U H1).2.2⟩
theorem take_num (B:Nat) (x:CX) (st:RS) (w:World) (h:CpE B w x st) (t:ByteArray) (hsz:t.size≤2000) (hy:meanS t=none) (hn:(numS t).isSome=true) (hV:VocOk w) (hE:ErrsOk w) (hlen:hereS st<4000) (h0:st.err=0) :
    Calls Tryz.prog 49 #[.pointer (some ⟨x.b,0,none⟩),.string t] w (Took B w x (putS st 0 (numV t))):=by
  have HM:=V (meaning_any t w hV)
  have hv:meanV t=.agg #[.string ⟨#[]⟩,.int .i64 0,.int .i64 0]:=by unfold meanV;rw[hy]
  have hs:(meanS t).isSome=false:=by rw[hy];rfl
  rw[hv,hs]at HM
  have HNUM:Hid (∀ w1,Below w.heap.size w w1→Calls Tryz.prog 76 #[.string t] w1 fun e w'=>e=.returned (.tuple #[.int .i64 (numV t),.bool true])∧Below w1.heap.size w1 w'):=by
    intro w1 hb
    have:=tokNumber_any t w1 hsz (hE.below hb)
    rw[hn]at this
    exact this
  have HH:=V h
  have HP0:=V (show (putS st 0 (numV t)).err=0 by unfold putS;split<;>exact h0)
  clear hv hs hy hV hE hn h h0
  generalize numV t=nv at *
  go_enter Tryz.func49,Tryz.ntmps49
  go_wp2_with fail
  refine (U HM).mono ?_
  rintro e w1 ⟨rfl,hb1⟩
  have HB1:=V hb1
  clear hb1 HM
  go_wp2_with fail
  have hb2:Below w.heap.size w (w1.alloc (.cells #[.string ⟨#[]⟩,.int .i64 0,.int .i64 0] 146)):=(U HB1).alloc (by have:=(U HB1).size;omega) _
  refine (U HNUM _ hb2).mono ?_
  rintro e w2 ⟨rfl,hb3⟩
  have hb4:Below w.heap.size w w2:=hb2.trans (below_less hb3 (by have:=hb2.size;omega))
  obtain⟨fw,fo,hF⟩:=((U HH).below hb4).f
  obtain⟨s0,vo,hblk⟩:=hF.blk
  have hc:=hblk.cell
  unfold cpArr at hc
  have hxl:=hblk.lt
  have HADD:=V (addW B x st _ fw fo hF 0 nv hlen)
  have HB4:=V (below_less hb4 (U HH).size)
  have hxa:x.b<w2.heap.size+1:=by omega
  have hxb:x.b≤w2.heap.size:=by omega
  have hxc:x.b≤w2.heap.size+1:=by omega
  have hxd:x.b<w2.heap.size+1+1:=by omega
  clear hb2 hb3 hb4 hF hblk HNUM HB1
  generalize hereX x st=hx at *
  go_wp2_with fail
  go_region_law (first
      | (refine step_call rfl 77 #[.const (.int .i64 0),.tmp 30] #[3,2] rfl Tryz.func77 Tryz.name77 Tryz.body77 #[.int .i64 0,.int .i64 nv] (by first|(simp[Act.eval];done)|(simp[Act.eval,Act.put];done)|rfl) (withI_any 0 nv _) ?_;rintro e w1 ⟨rfl,rfl⟩;refine⟨_,rfl,?_⟩)
      | (refine step_call rfl 50 #[.tmp 29,.tmp 32] #[96,33] rfl Tryz.func50 Tryz.name50 Tryz.body50 #[.pointer (some ⟨hx,0,none⟩),.slice (some ⟨w2.heap.size+1,0,none⟩) 1 1] (by first|(simp[Act.eval];done)|(simp[Act.eval,Act.put];done)|rfl) (U HADD _ (w2.heap.size+1) (by (repeat (first|with_reducible refine below_drew ?_|with_reducible refine below_drawn ?_ _|with_reducible refine below_longer ?_ _|(with_reducible refine Below.alloc ?_ ?_ _;rotate_left;(first|omega|((repeat (first|rw[World.size_up]|rw[World.size_dr]|rw[World.size_drN]))<;>omega)))));(with_reducible exact Below.refl _ _)) (by (repeat (first|with_reducible refine Blk.drew ?_|with_reducible refine Blk.drewN ?_ _|(with_reducible refine blk_newAt _ _ ?_;(first|omega|((repeat (first|rw[World.size_up]|rw[World.size_dr]|rw[World.size_drN]))<;>omega)))|with_reducible refine Blk.alloc ?_ _));(first|done|with_reducible assumption))) ?_;rintro e w1 ⟨rfl,h2,h1⟩;refine⟨_,rfl,?_⟩;have H1:=V h1;clear h1 h2))
  all_goals
    go_wp2_with fail
    go_ret
    obtain⟨k1,_,k2,k3⟩:=U H1
    exact Took.ok (U HP0) k1.e ((U HB4).trans k3)
theorem take_name_no (B:Nat) (x:CX) (st:RS) (w:World) (h:CpE B w x st) (t:ByteArray) (hsz:t.size≤2000) (hy:meanS t=none) (hn:(numS t).isSome=false) (hV:VocOk w) (hE:ErrsOk w) (h0:st.err=0) (hfind:st.names.find? (fun x=>x.1 == t)=none) :
    Calls Tryz.prog 49 #[.pointer (some ⟨x.b,0,none⟩),.string t] w (Took B w x (failS st 2)):=by
  have HM:=V (meaning_any t w hV)
  have hv:meanV t=.agg #[.string ⟨#[]⟩,.int .i64 0,.int .i64 0]:=by unfold meanV;rw[hy]
  have hs:(meanS t).isSome=false:=by rw[hy];rfl
  rw[hv,hs]at HM
  have HNUM:Hid (∀ w1,Below w.heap.size w w1→Calls Tryz.prog 76 #[.string t] w1 fun e w'=>e=.returned (.tuple #[.int .i64 (numV t),.bool false])∧Below w1.heap.size w1 w'):=by
    intro w1 hb
    have:=tokNumber_any t w1 hsz (hE.below hb)
    rw[hn]at this
    exact this
  have HH:=V h
  have HFI:=V hfind
  clear hv hs hy hV hE hn h hfind
  generalize numV t=nv at *
  go_enter Tryz.func49,Tryz.ntmps49
  go_wp2_with fail
  refine (U HM).mono ?_
  rintro e w1 ⟨rfl,hb1⟩
  have HB1:=V hb1
  clear hb1 HM
  go_wp2_with fail
  have hb2:Below w.heap.size w (w1.alloc (.cells #[.string ⟨#[]⟩,.int .i64 0,.int .i64 0] 146)):=(U HB1).alloc (by have:=(U HB1).size;omega) _
  refine (U HNUM _ hb2).mono ?_
  rintro e w2 ⟨rfl,hb3⟩
  have hb4:Below w.heap.size w w2:=hb2.trans (below_less hb3 (by have:=hb2.size;omega))
  have h2:=(U HH).below hb4
  have hlk:=h2.names.look t hsz
  have HB4:=V (below_less hb4 (U HH).size)
  clear hb2 hb3 hb4 HNUM HB1
  have hls:lookS st.names t=.agg #[.int .i64 0,.int .i64 0]:=by unfold lookS;rw[U HFI]
  rw[hls,U HFI]at hlk
  have HA:=V (h2.below ((Below.refl _ _).alloc (Nat.le_refl _) (.cells #[.int .i64 0,.int .i64 0] 65))).atIs
  obtain⟨fw,fo,hF⟩:=h2.f
  obtain⟨s0,vo,hblk⟩:=hF.blk
  have hc:=hblk.cell
  unfold cpArr at hc
  have hxl:=hblk.lt
  have HS:=V h2.size
  clear h2 hF hblk hls
  generalize hereX x st=hx at *
  simp only[Option.isSome_none]at hlk
  go_wp2_with fail
  go_ret
  exact Took.fail (er:=2) h0 (by decide) (U HA) ((U HB4).alloc (U HS) _)
theorem take_name_yes (B:Nat) (x:CX) (st:RS) (w:World) (h:CpE B w x st) (t:ByteArray) (hsz:t.size≤2000) (hy:meanS t=none) (hn:(numS t).isSome=false) (hV:VocOk w) (hE:ErrsOk w) (hlen:hereS st<4000) (h0:st.err=0) (y:ByteArray×Int×Int) (hfind:st.names.find? (fun x=>x.1 == t)=some y) :
    Calls Tryz.prog 49 #[.pointer (some ⟨x.b,0,none⟩),.string t] w (Took B w x (putS st y.2.1 y.2.2)):=by
  obtain⟨y1,y2,y3⟩:=y
  have HM:=V (meaning_any t w hV)
  have hv:meanV t=.agg #[.string ⟨#[]⟩,.int .i64 0,.int .i64 0]:=by unfold meanV;rw[hy]
  have hs:(meanS t).isSome=false:=by rw[hy];rfl
  rw[hv,hs]at HM
  have HNUM:Hid (∀ w1,Below w.heap.size w w1→Calls Tryz.prog 76 #[.string t] w1 fun e w'=>e=.returned (.tuple #[.int .i64 (numV t),.bool false])∧Below w1.heap.size w1 w'):=by
    intro w1 hb
    have:=tokNumber_any t w1 hsz (hE.below hb)
    rw[hn]at this
    exact this
  have HH:=V h
  have HFI:=V hfind
  clear hv hs hy hV hE hn h hfind
  generalize numV t=nv at *
  go_enter Tryz.func49,Tryz.ntmps49
  go_wp2_with fail
  refine (U HM).mono ?_
  rintro e w1 ⟨rfl,hb1⟩
  have HB1:=V hb1
  clear hb1 HM
  go_wp2_with fail
  have hb2:Below w.heap.size w (w1.alloc (.cells #[.string ⟨#[]⟩,.int .i64 0,.int .i64 0] 146)):=(U HB1).alloc (by have:=(U HB1).size;omega) _
  refine (U HNUM _ hb2).mono ?_
  rintro e w2 ⟨rfl,hb3⟩
  have hb4:Below w.heap.size w w2:=hb2.trans (below_less hb3 (by have:=hb2.size;omega))
  have h2:=(U HH).below hb4
  have hlk:=h2.names.look t hsz
  have HB4:=V (below_less hb4 (U HH).size)
  clear hb2 hb3 hb4 HNUM HB1
  have hls:lookS st.names t=.agg #[.int .i64 y2,.int .i64 y3]:=by unfold lookS;rw[U HFI]
  rw[hls,U HFI]at hlk
  have hb5:Below w2.heap.size w2 (w2.alloc (.cells #[.int .i64 y2,.int .i64 y3] 65)):=by (repeat (first|with_reducible refine below_drew ?_|with_reducible refine below_drawn ?_ _|with_reducible refine below_longer ?_ _|(with_reducible refine Below.alloc ?_ ?_ _;rotate_left;(first|omega|((repeat (first|rw[World.size_up]|rw[World.size_dr]|rw[World.size_drN]))<;>omega)))));(with_reducible exact Below.refl _ _)
  have hib:Blk (w2.alloc (.cells #[.int .i64 y2,.int .i64 y3] 65)) w2.heap.size #[.int .i64 y2,.int .i64 y3] 65:=Blk.new _ _ _
  have h3:=h2.below hb5
  have HB5:=V ((U HB4).trans (below_less hb5 h2.size))
  obtain⟨fw2,fo2,hF2⟩:=h2.f
  obtain⟨s2,vo2,hblk2⟩:=hF2.blk
  have hc2:=hblk2.cell
  unfold cpArr at hc2
  have hxl2:=hblk2.lt
  obtain⟨fw,fo,hF⟩:=h3.f
  obtain⟨s0,vo,hblk⟩:=hF.blk
  have hc:=hblk.cell
  unfold cpArr at hc
  have hxl:=hblk.lt
  have hic:=hib.cell
  have hil:=hib.lt
  have HADD:=V (addW B x st _ fw fo hF y2 y3 hlen)
  have HP0:=V (show (putS st y2 y3).err=0 by unfold putS;split<;>exact h0)
  simp only[Option.isSome_some]at hlk
  clear h2 h3 hF hblk hF2 hblk2 hb5 hib hls h0
  generalize hereX x st=hx at *
  go_wp2_with fail
  generalize w2.alloc (.cells #[.int .i64 y2,.int .i64 y3] 65)=W0 at *
  have hxa:x.b<W0.heap.size+1:=by omega
  have hxb:x.b≤W0.heap.size:=by omega
  have hia:w2.heap.size<W0.heap.size+1:=by omega
  have hib:w2.heap.size≤W0.heap.size:=by omega
  clear hc2 hxl2 hlk
  go_region_law (refine step_call rfl 50 #[.tmp 48,.tmp 50] #[96,33] rfl Tryz.func50 Tryz.name50 Tryz.body50 #[.pointer (some ⟨hx,0,none⟩),.slice (some ⟨W0.heap.size,0,none⟩) 1 1] (by first|(simp[Act.eval];done)|(simp[Act.eval,Act.put];done)|rfl) (U HADD _ W0.heap.size (by (repeat (first|with_reducible refine below_drew ?_|with_reducible refine below_drawn ?_ _|with_reducible refine below_longer ?_ _|(with_reducible refine Below.alloc ?_ ?_ _;rotate_left;(first|omega|((repeat (first|rw[World.size_up]|rw[World.size_dr]|rw[World.size_drN]))<;>omega)))));(with_reducible exact Below.refl _ _)) (by (repeat (first|with_reducible refine Blk.drew ?_|with_reducible refine Blk.drewN ?_ _|(with_reducible refine blk_newAt _ _ ?_;(first|omega|((repeat (first|rw[World.size_up]|rw[World.size_dr]|rw[World.size_drN]))<;>omega)))|with_reducible refine Blk.alloc ?_ _));(first|done|with_reducible assumption))) ?_;rintro e w1 ⟨rfl,h2,h1⟩;refine⟨_,rfl,?_⟩;have H1:=V h1;clear h1 h2)
  all_goals
    go_wp2_with fail
    go_ret
    obtain⟨k1,_,k2,k3⟩:=U H1
    exact Took.ok (U HP0) k1.e ((U HB5).trans k3)
theorem ctake_any (B:Nat) (x:CX) (st:RS) (w:World) (h:CpE B w x st) (m:Nat) (hi:Inv st m) (hm:m<3000) (hn:NmOk st) (h0:st.err=0) (hB:6≤B) (hV:VocOk w) (hE:ErrsOk w) :
    Calls Tryz.prog 49 #[.pointer (some ⟨x.b,0,none⟩),.string st.token] w (Took B w x (itemS st)):=by
  have hl:=hi.lens
  unfold lens at hl
  have hlen:hereS st<4000:=by unfold hereS;split<;>omega
  have hsz:st.token.size≤2000:=by
    rw[hi.token,ByteArray.size_extract]
    have:=hi.size;omega
  cases hy:meanS st.token with
  | some y=>exact take_mean B x w h.size st.token y hy hV _ (fun W hW=>cfollow_any B x st W (h.below hW) m hi hm hn h0 hB (hV.below hW) (hE.below hW) y hy)
  | none =>
    rw[item_none hy]
    cases hnum:(numS st.token).isSome
    · simp only[Bool.false_eq_true,if_false]
      cases hf:st.names.find? (fun x=>x.1 == st.token) with
      | none=>exact take_name_no B x st w h st.token hsz hy hnum hV hE h0 hf
      | some y=>exact take_name_yes B x st w h st.token hsz hy hnum hV hE hlen h0 y hf
    · simp only[if_true]
      exact take_num B x st w h st.token hsz hy hnum hV hE hlen h0
theorem wpList_append_row {P:Program} {w:World} {ops:Array Oper} {rest:List Oper} {o:Oper} {a:Act} {Q:Exit→Act→World→Prop} (hgd:o.guard=none) (s x:Operand) (t:TypeId)
    (ho:o.op=.call { callee:=.builtin .append,args:=#[s,x],argTypes:=#[t,t] })
    (base:Nat) (e:TypeId) (i:TypeInfo) (z:Value) (size bytes:Nat) (ht:P.underlying t=some (.slice e)) (hi:P.info? e=some i) (hz:i.zero=some z)
    (hsize:i.size=size) (hby:i.bytes=bytes) (hzs:z.cells.size=size) (hsz:0<size)
    (v:Value) (n:Nat) (xs:List Value) (hs:a.eval s=v) (hown:w.ownsRow base e size v n xs)
    (u:Value) (b2 m:Nat) (news:List Value) (hx:a.eval x=u) (hu:w.ownsRow b2 e size u m news) (h1:∀ u∈news,u.oneCell'=true)
    (h63:n+m≤maxLen) (hbytes:(n+m) * bytes≤140737488355328) (hbase:base≤w.heap.size)
    (h:∀ v' w',w'.ownsRow base e size v' (n+m) (xs++news)→w.grownBy w' v.ownBlock→wpList P ops Q rest (a.put o.dst v') w') :
    wpList P ops Q (o :: rest) a w:=by
  refine wpList_plain hgd fun K hK=>?_
  obtain⟨ao,c,hv⟩:=own_shape hu
  subst hv
  cases ao with
  | none =>
    have hm:m=0∧news=[]:=by
      rcases hu.2 with ⟨e1,e2⟩|⟨g,cap,cur,e1,_⟩
      · simp only[Value.slice.injEq,true_and]at e1
        have hl:=hu.1
        rw[e1.1]at hl
        exact⟨e1.1,by simpa using hl⟩
      · simp at e1
    obtain⟨rfl,rfl⟩:=hm
    have hc:=own_none hu
    subst hc
    have hrun:=run_append_owned_none (P:=P) (w:=w) base t o.type e i size ht hi v n xs hown
    unfold Oper.wp execOp
    simp only[ho,resolve,invoke,builtin,Sem.run_bind,Sem.run_pure,Result.andThen_ok,List.map_toArray,List.map_cons,List.map_nil,hs,hx,hrun]
    exact hK _ _ (h v w (by rw[List.append_nil,Nat.add_zero];exact hown) (World.grownBy.refl _ _))
  | some ad =>
    obtain⟨g,rfl⟩:∃ g,ad=⟨g,0,none⟩:=by
      rcases hu.2 with ⟨e1,_⟩|⟨g,cap,cur,e1,_⟩
      · simp at e1
      · simp only[Value.slice.injEq,Option.some.injEq]at e1
        exact⟨g,e1.1⟩
    obtain⟨v',w',hr,h2,h3,_⟩:=run_append_own (P:=P) w base t o.type e i z size bytes ht hi hz hsize hby hzs hsz v n xs hown ⟨g,0,none⟩ m c news hu.1 (own_news hu) h1 h63 hbytes hbase
    unfold Oper.wp execOp
    simp only[ho,resolve,invoke,builtin,Sem.run_bind,Sem.run_pure,Result.andThen_ok,List.map_toArray,List.map_cons,List.map_nil,hs,hx,hr]
    exact hK _ _ (h v' w' h2 h3)
theorem join_any (B d m:Nat) (vd vm:Value) (c0 c1:List (Int×Int)) (w:World) (hd:Blk w d #[vd] 140) (hm:Blk w m #[vm] 140) (od:w.ownsRow B 65 2 vd c0.length (instrCells c0)) (om:w.ownsRow B 65 2 vm c1.length (instrCells c1)) (h0:c0.length≤4000) (h1:c1.length≤4000) :
    Calls Tryz.prog 79 #[.pointer (some ⟨d,0,none⟩),.pointer (some ⟨m,0,none⟩)] w fun e w'=>∃ v,e=.returned v∧w'.ownsRow w.heap.size 65 2 v (c0.length+c1.length) (instrCells (c0++c1.map (shiftS c0.length)))∧Below w.heap.size w w':=by
  obtain⟨iI,hiI,hzI0,hzI1,hzI2⟩:=info_parts Tryz.infoInstr
  obtain⟨ad,kd,hvd⟩:=own_shape od
  obtain⟨am,km,hvm⟩:=own_shape om
  subst hvd
  subst hvm
  have HN:=V (partNext_any d c0.length ad kd w hd (by omega))
  have hcd:=hd.cell
  have hcm:=hm.cell
  obtain⟨wm,hmk,hmo,hmg⟩:=run_make_own (P:=Tryz.prog) w.drew w.heap.size 33 65 iI _ 2 Tryz.underlying33 hiI hzI0 hzI1 .i64 .i64 (c0.length+c1.length) (by rw[hzI2];omega) (by unfold maxLen;omega) (Nat.le_refl _)
  rw[Int.natCast_add]at hmk
  have hwr:IntKind.i64.wrap ((c0.length:Int)+(c1.length:Int))=(c0.length:Int)+(c1.length:Int):=by rw[IntKind.wrap_i64];omega
  have hdl:=hd.lt
  have hml:=hm.lt
  have HMO:=V hmo
  have HBM:Hid (Below w.heap.size w wm):=Below.grown (Below.refl w.heap.size w).drew hmg (Nat.le_refl _) (fun k hk=>by cases hk)
  have HD:=V hd
  have HM:=V hm
  have HOD:=V od
  have HOM:=V om
  have h0I:(c0.length:Int)≤4000:=by omega
  have h1I:(c1.length:Int)≤4000:=by omega
  clear hd hm od om hmo hmg
  go_enter Tryz.func79,Tryz.ntmps79
  go_wp2_with fail
  refine (U HN).mono ?_
  rintro e w2 ⟨rfl,hw⟩
  obtain rfl:=hw.symm
  clear hw HN
  go_wp2_with fail
  go_cut [6] from 9 to 46 (fun s6 wc=>∃ v,s6=v∧wc.ownsRow w.heap.size 65 2 v 0 []∧Below w.heap.size w wc)
  case first =>
    go_region_law (fail)
    all_goals
      go_wp2_with fail
      go_meet
      exact⟨_,rfl,U HMO,U HBM⟩
  case rest =>
    obtain⟨v0,hv0,ho0,hb0⟩:=hcut
    obtain rfl:=hv0.symm
    clear hv0
    have hd0:=(U HD).below hb0 hdl
    have hm0:=(U HM).below hb0 hml
    have hcd0:=hd0.cell
    have hcm0:=hm0.cell
    have od0:wc.ownsRow B 65 2 (.slice ad c0.length kd) c0.length (instrCells c0):=ownsRow_of_block (U HOD) (fun k _ hk=>hb0.block k hk)
    have HB0:=V hb0
    have HO0:=V ho0
    have HOD0:=V od0
    clear hcd hcm hmk HMO HBM hb0 ho0 od0 hd0 hm0
    go_wp2_with (at_builtin;refine wpList_append_row rfl (.tmp 23) (.tmp 27) 33 rfl w.heap.size 65 iI _ 2 16 Tryz.underlying33 hiI hzI0 hzI1 hzI2 rfl (by decide) v0 0 [] (by simp[Act.eval]) (U HO0) (.slice ad c0.length kd) B c0.length (instrCells c0) (by simp[Act.eval]) (U HOD0) (instr_oneCell _) (by unfold maxLen;omega) (by omega) (U HB0).size ?_;intro v1 w1 ho1 hg1;have hb1:=(U HB0).grown hg1 (U HB0).size (fun k hk=>(ownsRow_lt (U HO0) hk).2);have hcm1:=((U HM).below hb1 hml).cell;have HO1:=V ho1;have HB1:=V hb1;clear ho1 hg1 hb1 hcd0 hcm0)
    go_loopw [6,34] (fun l i wr=>∃ (k:Nat) (v:Value),l=v∧i=.int .i64 k∧k≤c1.length∧wr.ownsRow w.heap.size 65 2 v (c0.length+k) (instrCells (c0++(c1.take k).map (shiftS c0.length)))∧Below w.heap.size w wr) (fun _ i _=>c1.length-(intOf i).toNat)
    case atStart =>
      have:=U HO1
      rw[Nat.zero_add,List.nil_append]at this
      exact⟨0,v1,rfl,rfl,Nat.zero_le _,by simpa using this,U HB1⟩
    case round =>
      clear HO1 HB1 hcm1 HO0 HB0 HOD0
      obtain⟨k,v,hv,rfl,hk,ho,hb⟩:=hrel
      obtain rfl:=hv.symm
      clear hv
      have HO:=V ho
      have HB:=V hb
      have om1:wr.ownsRow B 65 2 (.slice am c1.length km) c1.length (instrCells c1):=ownsRow_of_block (U HOM) (fun k _ hk=>hb.block k hk)
      have hkI:(k:Int)≤4000:=by omega
      by_cases hlt:k<c1.length
      · obtain⟨g5,k5',hv5,_,hg5⟩:=om1.form (by omega)
        simp only[Value.slice.injEq,true_and]at hv5
        obtain⟨rfl,rfl⟩:=hv5
        obtain⟨y,hy⟩:∃ y,c1[k]? = some y:=⟨_,List.getElem?_eq_getElem hlt⟩
        have hx1:=own_cell om1 (k * 2) (by omega)
        have hx2:=own_cell om1 (k * 2+1) (by omega)
        rw[(instrCells_at _ _ _ hy).1]at hx1
        rw[(instrCells_at _ _ _ hy).2]at hx2
        have HY:=V hy
        have hltI:(k:Int)<c1.length:=by omega
        obtain⟨y1,y2⟩:=y
        clear ho hb om1 hy
        simp only at hx1 hx2
        have HMV:=V (moved_any y1 y2 c0.length (wr.alloc (.cells #[.int .i64 y1,.int .i64 y2] 65)))
        generalize hz:shiftS (c0.length:Int) (y1,y2)=z at HMV
        obtain⟨z1,z2⟩:=z
        simp only at HMV
        have HZ:=V hz
        clear hz
        go_wp2_with fail
        refine (U HMV).mono ?_
        rintro e w3 ⟨rfl,hb3⟩
        have hb4:Below wr.heap.size wr w3:=((Below.refl _ _).alloc (Nat.le_refl _) _).trans (below_less hb3 (by simp))
        have hbA:Below wr.heap.size wr (w3.alloc (.cells #[.int .i64 z1,.int .i64 z2] 65)):=hb4.alloc hb4.size _
        have ho4:(w3.alloc (.cells #[.int .i64 z1,.int .i64 z2] 65)).ownsRow w.heap.size 65 2 v (c0.length+k) (instrCells (c0++(c1.take k).map (shiftS c0.length))):=ownsRow_of_block (U HO) (fun k _ hk=>hbA.block k hk)
        have HO4:=V ho4
        have HBA:=V ((U HB).trans (below_less hbA (U HB).size))
        have hnb:=Blk.new w3 #[.int .i64 z1,.int .i64 z2] 65
        have HNB:=V hnb
        clear hb3 hb4 hbA ho4 hnb HMV hx1 hx2
        go_wp2_with (at_builtin;refine wpList_append_own _ rfl (.tmp 38) (.tmp 42) 33 rfl w.heap.size 65 iI _ 2 16 Tryz.underlying33 hiI hzI0 hzI1 hzI2 rfl (by decide) v (c0.length+k) (instrCells (c0++(c1.take k).map (shiftS c0.length))) (by simp[Act.eval]) (U HO4) ⟨w3.heap.size,0,none⟩ 1 1 [.int .i64 z1,.int .i64 z2] (by simp[Act.eval]) rfl (World.news_of_block (U HNB)) (by simp[Value.oneCell']) (by unfold maxLen;omega) (by omega) (U HBA).size ?_;intro v5 w5 ho5 hg5 _;have hb5:=(U HBA).grown hg5 (U HBA).size (fun k hk=>(ownsRow_lt (U HO4) hk).2);have HO5:=V ho5;have HB5:=V hb5;clear ho5 hg5 hb5)
        go_roundw
        case rel =>
          refine⟨k+1,v5,rfl,by go_num,by omega,?_,U HB5⟩
          have:=U HO5
          rw[take_one _ _ _ (U HY),List.map_append,List.map_cons,List.map_nil,U HZ,← List.append_assoc]
          have e:instrCells (c0++(c1.take k).map (shiftS c0.length)++[(z1,z2)])=instrCells (c0++(c1.take k).map (shiftS c0.length))++[.int .i64 z1,.int .i64 z2]:=by simp[instrCells]
          rw[e,← Nat.add_assoc]
          exact this
        case measure=>simp[intOf];omega
      · have hkn:k=c1.length:=by omega
        subst hkn
        clear ho hb om1
        go_wp2_with fail
        go_ret
        refine⟨v,rfl,?_,U HB⟩
        have:=U HO
        rw[List.take_length]at this
        exact this
end Go.Proofs.YtmeiikjpaepogaaGreatDoor
