/- The program's options: Fold: reachedIn. -/
import Derived.Test.YtmeiikjpaepogaaGreatDoorE36
import Derived.Test.YtmeiikjpaepogaaGreatDoorE37
import Derived.Test.YtmeiikjpaepogaaGreatDoorE33
import Derived.Deep.AppendLies
import Derived.Test.YtmeiikjpaepogaaGreatDoorE34
set_option maxRecDepth 100000
set_option maxHeartbeats 16000000
namespace Go.Proofs.YtmeiikjpaepogaaGreatDoor
open Go Go.RowKit
def cntF (w:World) (g n:Nat):Nat:=(List.range n).countP (fun j=>match w.cell? ⟨g,j,none⟩ with|some (.bool false)=>true|_=>false)
theorem cntF_range (f:Nat→Bool) (r:List Bool):(∀ (j:Nat) (b:Bool),r[j]? = some b→f j=!b)→(List.range r.length).countP f=r.count false:=by
  generalize hn:r.length=n
  induction n generalizing r with
  | zero=>intro _;have:=List.length_eq_zero_iff.1 hn;subst this;rfl
  | succ n ih =>
    intro hf
    rcases List.eq_nil_or_concat r with rfl|⟨t,b,rfl⟩
    · simp at hn
    · rw[List.concat_eq_append]at hn hf ⊢
      have ht:t.length=n:=by simpa using hn
      rw[List.range_succ,List.countP_append,List.count_append,ih t ht (fun j c hj=>hf j c (by rw[List.getElem?_append_left (List.getElem?_eq_some_iff.1 hj).1];exact hj))]
      have:=hf t.length b (by simp)
      rw[ht]at this
      cases b<;>simp[this]
theorem cntF_own {B:Nat} {w:World} {g n:Nat} {r:List Bool} (h:OwnB B w g r) (hn:r.length=n):cntF w g n=r.count false:=by
  subst hn
  unfold cntF
  refine cntF_range _ r (fun j b hj=>?_)
  rw[h.cell hj]
  cases b<;>rfl
structure Rch (B:Nat) (w:World) (p:Array Value) (l:List (Int×Int)) (r:List Bool) (t:List Int) (v:Value):Prop where
  own:w.ownsRow (B+2) 3 1 v t.length (intCells t)
  reached:OwnB B w (B+1) r
  box:Blk w B p 73
  len:r.length=l.length
  low:∀ y∈t,0≤y∧y<(l.length:Int)
theorem Rch.measure {B:Nat} {w:World} {p:Array Value} {l:List (Int×Int)} {r:List Bool} {t:List Int} {v:Value} (h:Rch B w p l r t v):3 * cntF w (B+1) l.length+sliceLen v=reachM r t:=by
  obtain⟨a,c,rfl⟩:=own_shape h.own
  rw[cntF_own h.reached h.len]
  rfl
theorem own_len {w:World} {B:Nat} {e:TypeId} {s:Nat} {v:Value} {n m:Nat} {xs:List Value} (h:w.ownsRow B e s v n xs) (hn:n=m):w.ownsRow B e s v m xs:=hn▸h
theorem Rch.app {B:Nat} {W W5:World} {t:List Int} {v:Value} {n:Nat} {o:Obj} {y:Int} {g5 cap5:Nat} (hB:B+2≤W.heap.size) (own:W.ownsRow (B+2) 3 1 v n (intCells t)) (hg:(W.alloc o).grownBy W5 v.ownBlock) (ho:W5.ownsRow (B+2) 3 1 (.slice (some ⟨g5,0,none⟩) (n+1) cap5) (n+1) (intCells t++[.int .i64 y])) (hn:n=t.length) :
    W5.ownsRow (B+2) 3 1 (.slice (some ⟨g5,0,none⟩) (t++[y]).length cap5) (t++[y]).length (intCells (t++[y]))∧Below (B+2) W W5:=by
  have hb:=below_box W o
  refine⟨?_,(hb.mono hB).grown hg (Nat.le_trans hB hb.size) (fun j hj=>(ownsRow_lt own hj).2)⟩
  have e:(t++[y]).length=n+1:=by rw[List.length_append,hn];rfl
  have e2:intCells (t++[y])=intCells t++[.int .i64 y]:=by unfold intCells;rw[List.map_append];rfl
  rw[e,e2]
  exact ho
theorem OwnB.low {B M:Nat} {w w':World} {g:Nat} {b:List Bool} (h:OwnB B w g b) (hb:Below M w w') (hg:g<M):OwnB B w' g b:=ownsRow_of_block h (fun k e _=>hb.block k (by
  have:k=g:=(Option.some.inj e).symm
  omega))
theorem reachGo_step (l:List (Int×Int)) (f:Nat) (r:List Bool) (u:List Int) (y:Int) (h:reachM r (u++[y])≤f):∃ f',f=f'+1∧reachGo l f r (u++[y])=reachGo l f' (reachStep l r u y).1 (reachStep l r u y).2:=by
  unfold reachM at h
  rw[List.length_append]at h
  obtain⟨f',rfl⟩:∃ f',f=f'+1:=⟨f-1,by simp at h;omega⟩
  refine⟨f',rfl,?_⟩
  rw[reachGo]
  simp
theorem reachStep_yes {l:List (Int×Int)} {r:List Bool} {u:List Int} {y:Int} (h:r.getD y.toNat false=true):reachStep l r u y=(r,u):=by
  unfold reachStep
  rw[if_pos h]
theorem reachStep_no {l:List (Int×Int)} {r:List Bool} {u:List Int} {y:Int} {x:Int×Int} (h:r.getD y.toNat false=false) (hx:l[y.toNat]? = some x):reachStep l r u y=(r.set y.toNat true,u++(if namesS x.1=true then [x.2] else [])++(if goesS x.1=true then [y+1] else [])):=by
  unfold reachStep
  rw[h,if_neg (by simp),hx]
theorem reachedIn_any (ao:Option Addr) (c en:Nat) (ce:Int) (l:List (Int×Int)) (w:World) (hin:InL w ao l) (hp:PrOk (l,en)) :
    Calls Tryz.prog 152 #[.agg #[.slice ao l.length c,.int .i64 en,.int .i64 ce]] w fun e w'=>∃ g,e=.returned (.slice (some ⟨g,0,none⟩) l.length l.length)∧OwnB w.heap.size w' g (reachedS l en)∧Below w.heap.size w w':=by
  obtain⟨iN,hiN,hzN0,hzN1,hzN2⟩:=info_parts Tryz.infoInt
  have hent:en<l.length:=hp.entry
  have hsm:l.length≤5000:=hp.small
  have hsmI:(l.length:Int)≤5000:=by omega
  have hmk:=run_makeB l.length (by omega)
  have hb1:=below_box w (.cells #[.slice ao l.length c,.int .i64 en,.int .i64 ce] 73)
  have hP:=Blk.new w #[.slice ao l.length c,.int .i64 en,.int .i64 ce] 73
  have hb2:=below_box (w.alloc (.cells #[.slice ao l.length c,.int .i64 en,.int .i64 ce] 73)) (.cells (madeCells #[.bool false] (l.length * 1)) 4)
  have hO:=made_bools (w.alloc (.cells #[.slice ao l.length c,.int .i64 en,.int .i64 ce] 73)) l.length (by omega)
  have hsz:(w.alloc (.cells #[.slice ao l.length c,.int .i64 en,.int .i64 ce] 73)).heap.size=w.heap.size+1:=by simp
  have hsz2:((w.alloc (.cells #[.slice ao l.length c,.int .i64 en,.int .i64 ce] 73)).alloc (.cells (madeCells #[.bool false] (l.length * 1)) 4)).heap.size=w.heap.size+2:=by simp
  have hb3:=below_box ((w.alloc (.cells #[.slice ao l.length c,.int .i64 en,.int .i64 ce] 73)).alloc (.cells (madeCells #[.bool false] (l.length * 1)) 4)) (.cells #[.int .i64 en] 3)
  have hN:=Blk.new ((w.alloc (.cells #[.slice ao l.length c,.int .i64 en,.int .i64 ce] 73)).alloc (.cells (madeCells #[.bool false] (l.length * 1)) 4)) #[.int .i64 en] 3
  rw[hsz]at hO
  rw[hsz2]at hN
  have hR0:Rch w.heap.size (((w.alloc (.cells #[.slice ao l.length c,.int .i64 en,.int .i64 ce] 73)).alloc (.cells (madeCells #[.bool false] (l.length * 1)) 4)).alloc (.cells #[.int .i64 en] 3)) #[.slice ao l.length c,.int .i64 en,.int .i64 ce] l (List.replicate l.length false) [(en:Int)] (.slice (some ⟨w.heap.size+2,0,none⟩) 1 1):=by
    refine⟨⟨rfl,Or.inr ⟨w.heap.size+2,1,_,rfl,Nat.le_refl _,hN,Nat.le_refl _,by unfold maxLen;omega,rfl,rfl⟩⟩,OwnB.base (hO.alloc _) (by omega),(hP.alloc _).alloc _,by simp,fun y hy=>?_⟩
    simp at hy
    omega
  have hbel:Below w.heap.size w (((w.alloc (.cells #[.slice ao l.length c,.int .i64 en,.int .i64 ce] 73)).alloc (.cells (madeCells #[.bool false] (l.length * 1)) 4)).alloc (.cells #[.int .i64 en] 3)):=hb1.trans ((hb2.mono hb1.size).trans (hb3.mono (by simp;omega)))
  simp only[Nat.mul_one]at hR0 hbel
  have hcp0:=((hP.alloc (.cells (madeCells #[.bool false] (l.length * 1)) 4)).cell)
  simp only[Nat.mul_one]at hcp0
  have HR0:=V hR0
  have HBEL:=V hbel
  have HIN:=V hin
  have HPR:=V hp
  generalize hres:reachedS l en=res
  have HRES:Hid (reachGo l (3 * l.length+1) (List.replicate l.length false) [(en:Int)]=res):=hres
  clear hb1 hP hb2 hO hsz hsz2 hb3 hN hR0 hbel hin hp hres
  go_enter Tryz.func152,Tryz.ntmps152
  go_wp2_with fail
  generalize (((w.alloc (.cells #[.slice ao l.length c,.int .i64 en,.int .i64 ce] 73)).alloc (.cells (madeCells #[.bool false] l.length) 4)).alloc (.cells #[.int .i64 en] 3))=W0 at *
  clear hcp0
  go_loopw [4] (fun v wr=>∃ (r:List Bool) (t:List Int) (f:Nat),Rch w.heap.size wr #[.slice ao l.length c,.int .i64 en,.int .i64 ce] l r t v∧reachGo l f r t=res∧reachM r t≤f∧f≤3 * l.length+1∧Below w.heap.size w wr) (fun v wr=>3 * cntF wr (w.heap.size+1) l.length+sliceLen v)
  case atStart=>exact⟨_,_,_,U HR0,U HRES,by unfold reachM;simp,Nat.le_refl _,U HBEL⟩
  case round =>
    clear hmk
    obtain⟨r,t,f,hR,hgo,hfu,hf3,hbw⟩:=hrel
    have HR:=V hR
    have HBW:=V hbw
    have HMS:=V hR.measure
    rcases List.eq_nil_or_concat t with rfl|⟨u,y,rfl⟩
    · obtain⟨a,ca,rfl⟩:=own_shape hR.own
      have hrr:r=res:=by rw[← hgo];cases f<;>rfl
      have HRR:=V hrr
      clear hR hgo hfu hf3 hbw hrr
      go_wp2_with fail
      go_ret
      exact⟨w.heap.size+1,rfl,by rw[← U HRR];exact (U HR).reached,U HBW⟩
    · rw[List.concat_eq_append]at hR hgo hfu HR HMS
      obtain⟨f',rfl,hst⟩:=reachGo_step l f r u y hfu
      rw[hst]at hgo
      have hy:=hR.low y (by simp)
      obtain⟨yn,rfl⟩:∃ yn:Nat,y=yn:=⟨y.toNat,by omega⟩
      have hless:=reach_less (l:=l) (r:=r) (t:=u) hy hR.len
      have hlow':=reach_in (r:=r) (t:=u) (U HPR).names (U HPR).last hy (fun z hz=>hR.low z (by simp[hz]))
      have hyl:yn<l.length:=by omega
      have hul:(u++[(yn:Int)]).length=u.length+1:=by simp
      have hown:=hR.own
      rw[hul]at hown
      obtain⟨gt,ct,rfl,_,_⟩:=World.ownsRow.form hown (by omega)
      have hu5:u.length≤100000:=by
        unfold reachM at hfu
        rw[hul]at hfu
        omega
      have hcy:=own_cell hown u.length (by omega)
      have hcy2:(intCells (u++[(yn:Int)]))[u.length]? = some (.int .i64 yn):=by simp[intCells]
      rw[hcy2]at hcy
      have hcut:=own_cut hown u.length (by omega)
      have hct:(intCells (u++[(yn:Int)])).take (u.length * 1)=intCells u:=by simp[intCells]
      rw[hct]at hcut
      have hcap:=(own_cap hown).1
      have hcapI:(u.length:Int)+1≤ct:=by omega
      have hgl:=(ownsRow_lt hown (k:=gt) rfl).1
      have hsub:IntKind.i64.wrap ((u.length:Int)+1-1)=u.length:=by rw[IntKind.wrap_i64];omega
      have hult:(u.length:Int)<(u.length:Int)+1:=by omega
      have hucap:(u.length:Int)≤ct:=by omega
      obtain⟨b,hb⟩:∃ b,r[yn]? = some b:=⟨_,List.getElem?_eq_getElem (by have:=hR.len;omega)⟩
      have hcb:=hR.reached.cell hb
      have hfb:=hR.reached.free
      have hlb:=hR.reached.lt.1
      have hcp:=hR.box.cell
      have hlp:=hR.box.lt
      have hgd:r.getD ((yn:Int)).toNat false=b:=by rw[Int.toNat_natCast,List.getD_eq_getElem?_getD,hb];rfl
      have hylI:(yn:Int)<l.length:=by omega
      have HCUT:=V hcut
      have HLESS:=V hless
      have HLOW:=V hlow'
      have HGO:=V hgo
      have HFU:=V hfu
      cases b with
      | true =>
        rw[reachStep_yes hgd]at HGO HLESS HLOW
        clear hR hgo hfu hst hless hlow' hown hcut hb hbw hcy2 hct hgd
        go_wp2_with fail
        go_roundw
        case rel =>
          refine⟨r,u,f',⟨U HCUT,(U HR).reached,(U HR).box,(U HR).len,U HLOW⟩,U HGO,?_,by omega,U HBW⟩
          have:=(U HLESS).1
          have:=U HFU
          simp only at *
          omega
        case measure =>
          have h1:=Rch.measure (⟨U HCUT,(U HR).reached,(U HR).box,(U HR).len,U HLOW⟩:Rch w.heap.size wr #[.slice ao l.length c,.int .i64 en,.int .i64 ce] l r u _)
          have h2:=U HMS
          have h3:=(U HLESS).1
          simp only at h1 h2 h3 ⊢
          omega
      | false =>
        obtain⟨x,hx⟩:∃ x,l[yn]? = some x:=⟨_,List.getElem?_eq_getElem hyl⟩
        rw[reachStep_no hgd (by rw[Int.toNat_natCast];exact hx)]at HGO HLESS HLOW
        simp only[Int.toNat_natCast]at HGO HLESS HLOW
        obtain⟨ag,aoff,rfl,hagl0,d10,d20⟩:=in_at (U HIN) hx
        obtain⟨x1,x2⟩:=x
        simp only at d10 d20 HGO HLESS HLOW
        have hgtB:w.heap.size+2≤gt:=(ownsRow_lt hown (k:=gt) rfl).2
        have hsz2:w.heap.size+2≤wr.heap.size:=by omega
        have d1:(wr.setCell ⟨w.heap.size+1,yn,none⟩ (.bool true)).cell? ⟨ag,aoff+yn * 2,none⟩=some (.int .i64 x1):=by
          rw[World.cell?_setCell_other _ _ _ _ (by simp only[ne_eq,Addr.mk.injEq];omega),hbw.cell (by simpa using hagl0)]
          exact d10
        have d2:(wr.setCell ⟨w.heap.size+1,yn,none⟩ (.bool true)).cell? ⟨ag,aoff+yn * 2+1,none⟩=some (.int .i64 x2):=by
          rw[World.cell?_setCell_other _ _ _ _ (by simp only[ne_eq,Addr.mk.injEq];omega),hbw.cell (by simpa using hagl0)]
          exact d20
        have hss:(wr.setCell ⟨w.heap.size+1,yn,none⟩ (.bool true)).heap.size=wr.heap.size:=by simp[World.setCell]
        have hagl:ag<wr.heap.size:=by have:=hbw.size;omega
        have HW1:Hid (((wr.setCell ⟨w.heap.size+1,yn,none⟩ (.bool true)).alloc (.cells #[.int .i64 x1,.int .i64 x2] 65)).ownsRow (w.heap.size+2) 3 1 (.slice (some ⟨gt,0,none⟩) u.length ct) u.length (intCells u)):=ownsRow_alloc (ownsRow_far hcut (a:=⟨w.heap.size+1,yn,none⟩) (by simp[Value.ownBlock];omega) _) _
        have HO1:Hid (OwnB w.heap.size ((wr.setCell ⟨w.heap.size+1,yn,none⟩ (.bool true)).alloc (.cells #[.int .i64 x1,.int .i64 x2] 65)) (w.heap.size+1) (r.set yn true)):=(hR.reached.set yn true).alloc _
        have HP1:Hid (Blk ((wr.setCell ⟨w.heap.size+1,yn,none⟩ (.bool true)).alloc (.cells #[.int .i64 x1,.int .i64 x2] 65)) w.heap.size #[.slice (some ⟨ag,aoff,none⟩) l.length c,.int .i64 en,.int .i64 ce] 73):=(hR.box.far (a:=⟨w.heap.size+1,yn,none⟩) (by simp) _).alloc _
        have hx1:=Blk.new (wr.setCell ⟨w.heap.size+1,yn,none⟩ (.bool true)) #[.int .i64 x1,.int .i64 x2] 65
        rw[hss]at hx1
        have HX1:=V hx1
        have HB1:Hid (Below w.heap.size w ((wr.setCell ⟨w.heap.size+1,yn,none⟩ (.bool true)).alloc (.cells #[.int .i64 x1,.int .i64 x2] 65))):=(hbw.setCell (by simp) _).trans ((below_box _ _).mono (by rw[hss];exact hbw.size))
        have hWs:((wr.setCell ⟨w.heap.size+1,yn,none⟩ (.bool true)).alloc (.cells #[.int .i64 x1,.int .i64 x2] 65)).heap.size=wr.heap.size+1:=by rw[← hss];simp
        have HWS:=V hWs
        have HN:=V (fun W=>namesIns_any x1 W)
        have HG:=V (fun W=>goesOn_any x1 W)
        clear hR hgo hfu hst hless hlow' hown hcut hb hcy2 hct hgd hx hWs hx1 d10 d20
        clear hbw hss
        go_wp2_with fail
        refine (U HN _).mono ?_
        rintro e W ⟨rfl,hw1⟩
        rw[← hw1]at HW1 HO1 HP1 HX1 HB1 HWS
        clear hw1 hcy hcb hfb hlb hcp hlp d1 d2 hagl hgl HN
        have hWs:=U HWS
        have hcx:=(U HX1).cell
        have hlx:=(U HX1).lt
        by_cases hnm:namesS x1=true
        · rw[hnm]
          have HAW:=V (ownsRow_alloc (U HW1) (.cells #[.int .i64 x2] 3))
          have HNB:=V (Blk.new W #[.int .i64 x2] 3)
          have HBS:Hid (w.heap.size+2≤(W.alloc (.cells #[.int .i64 x2] 3)).heap.size):=V (by simp;omega)
          have HXA:=V ((U HX1).alloc (.cells #[.int .i64 x2] 3))
          have HNE:Hid ((Value.slice (some ⟨gt,0,none⟩) u.length ct).ownBlock≠some wr.heap.size):=row_not_blk (U HX1) (U HW1) (by decide)
          go_wp2_with (at_builtin;refine wpList_append_lies _ rfl (.tmp 43) (.tmp 46) 115 rfl (w.heap.size+2) 3 iN _ 1 8 Tryz.underlying115 hiN hzN0 hzN1 hzN2 rfl (by decide) (.slice (some ⟨gt,0,none⟩) u.length ct) u.length (intCells u) (by simp[Act.eval]) (U HAW) ⟨W.heap.size,0,none⟩ 1 1 [.int .i64 x2] (by simp[Act.eval]) rfl (World.news_of_block (U HNB)) (oneCells1 _) (by omega) (by unfold maxLen;omega) (by omega) (U HBS) _ rfl ?_;intro g5 cap5 W5 hown5 hgrow5 hat5 hlt5;have HAP:=V (Rch.app (by omega) (U HW1) hgrow5 hown5 rfl);have hx5:=(U HXA).grown hgrow5 (fun e=>U HNE e.symm);have HX5:=V hx5;have hcx5:=hx5.cell;have hlx5:=hx5.lt;clear hown5 hgrow5 hat5 hx5)
          have HAP1:Hid (W5.ownsRow (w.heap.size+2) 3 1 (.slice (some ⟨g5,0,none⟩) (u.length+1) cap5) (u.length+1) (intCells (u++[x2]))):=by
            have:=(U HAP).1
            rw[List.length_append]at this
            exact this
          have hgw:w.heap.size+2≤W5.heap.size:=(by have:=(U HAP).2.size;omega)
          refine (U HG _).mono ?_
          rintro e Wz ⟨rfl,hwz⟩
          obtain rfl:=hwz.symm
          clear hwz
          by_cases hgs:x1=1∨x1=4∨x1=5
          · have hde:decide (x1=1∨x1=4∨x1=5)=true:=decide_eq_true hgs
            have hgn:¬ (goesS x1=true):=by unfold goesS;rw[hde];simp
            rw[hde]
            go_wp2_with fail
            go_roundw
            case rel =>
              have hgo:=U HGO
              have hle:=U HLESS
              have hlo:=U HLOW
              rw[if_pos hnm,if_neg hgn]at hgo hle hlo
              try simp only[List.append_nil]at hgo hle hlo
              refine⟨r.set yn true,u++[x2],f',⟨own_len ((U HAP1)) (by simp),OwnB.low (U HO1) (U HAP).2 (by omega),Blk.below (U HP1) (U HAP).2 (by omega),hle.2,hlo⟩,hgo,?_,by omega,(U HB1).trans ((U HAP).2.mono (by omega))⟩
              have:=hle.1
              have:=U HFU
              omega
            case measure =>
              have hle:=U HLESS
              have hlo:=U HLOW
              rw[if_pos hnm,if_neg hgn]at hle hlo
              try simp only[List.append_nil]at hle hlo
              have h1:=Rch.measure (⟨own_len ((U HAP1)) (by simp),OwnB.low (U HO1) (U HAP).2 (by omega),Blk.below (U HP1) (U HAP).2 (by omega),hle.2,hlo⟩:Rch w.heap.size W5 #[.slice (some ⟨ag,aoff,none⟩) l.length c,.int .i64 en,.int .i64 ce] l (r.set yn true) (u++[x2]) _)
              have h2:=U HMS
              have h3:=hle.1
              rw[h1]
              omega
          · have hde:decide (x1=1∨x1=4∨x1=5)=false:=decide_eq_false hgs
            have hgy:goesS x1=true:=by unfold goesS;rw[hde];rfl
            rw[hde]
            have HAW2:=V (ownsRow_alloc ((U HAP1)) (.cells #[.int .i64 ((yn:Int)+1)] 3))
            have HNB2:=V (Blk.new W5 #[.int .i64 ((yn:Int)+1)] 3)
            have HBS2:Hid (w.heap.size+2≤(W5.alloc (.cells #[.int .i64 ((yn:Int)+1)] 3)).heap.size):=V (by simp;omega)
            have hy1:IntKind.i64.wrap ((yn:Int)+1)=(yn:Int)+1:=by rw[IntKind.wrap_i64];omega
            go_wp2_with (at_builtin;refine wpList_append_lies _ rfl (.tmp 51) (.tmp 54) 115 rfl (w.heap.size+2) 3 iN _ 1 8 Tryz.underlying115 hiN hzN0 hzN1 hzN2 rfl (by decide) (.slice (some ⟨g5,0,none⟩) (u.length+1) cap5) (u.length+1) (intCells (u++[x2])) (by simp[Act.eval]) (U HAW2) ⟨W5.heap.size,0,none⟩ 1 1 [.int .i64 ((yn:Int)+1)] (by simp[Act.eval]) rfl (World.news_of_block (U HNB2)) (oneCells1 _) (by omega) (by unfold maxLen;omega) (by omega) (U HBS2) _ rfl ?_;intro g6 cap6 W6 hown6 hgrow6 hat6 hlt6;have HAP2:=V (Rch.app hgw ((U HAP1)) hgrow6 hown6 (by simp));clear hown6 hgrow6 hat6)
            have hlen6:(u++[x2]++[(yn:Int)+1]).length=(u.length+1)+1:=by simp
            have HAP3:Hid (W6.ownsRow (w.heap.size+2) 3 1 (.slice (some ⟨g6,0,none⟩) ((u.length+1)+1) cap6) ((u.length+1)+1) (intCells (u++[x2]++[(yn:Int)+1]))):=by
              have:=(U HAP2).1
              rw[hlen6]at this
              exact this
            go_wp2_with fail
            go_roundw
            case rel =>
              have hgo:=U HGO
              have hle:=U HLESS
              have hlo:=U HLOW
              rw[if_pos hnm,if_pos hgy]at hgo hle hlo
              try simp only[List.append_nil]at hgo hle hlo
              refine⟨r.set yn true,u++[x2]++[(yn:Int)+1],f',⟨own_len (U HAP3) hlen6.symm,OwnB.low (OwnB.low (U HO1) (U HAP).2 (by omega)) (U HAP2).2 (by omega),Blk.below (Blk.below (U HP1) (U HAP).2 (by omega)) (U HAP2).2 (by omega),hle.2,hlo⟩,hgo,?_,by omega,((U HB1).trans ((U HAP).2.mono (by omega))).trans ((U HAP2).2.mono (by omega))⟩
              have:=hle.1
              have:=U HFU
              omega
            case measure =>
              have hle:=U HLESS
              have hlo:=U HLOW
              rw[if_pos hnm,if_pos hgy]at hle hlo
              try simp only[List.append_nil]at hle hlo
              have h1:=Rch.measure (⟨own_len (U HAP3) hlen6.symm,OwnB.low (OwnB.low (U HO1) (U HAP).2 (by omega)) (U HAP2).2 (by omega),Blk.below (Blk.below (U HP1) (U HAP).2 (by omega)) (U HAP2).2 (by omega),hle.2,hlo⟩:Rch w.heap.size W6 #[.slice (some ⟨ag,aoff,none⟩) l.length c,.int .i64 en,.int .i64 ce] l (r.set yn true) (u++[x2]++[(yn:Int)+1]) _)
              have h2:=U HMS
              have h3:=hle.1
              rw[h1]
              omega
        · have hnf:¬ (namesS x1=true):=hnm
          have hnf':namesS x1=false:=by simpa using hnm
          rw[hnf']
          go_wp2_with fail
          have hgw:w.heap.size+2≤W.heap.size:=(by omega)
          refine (U HG _).mono ?_
          rintro e Wz ⟨rfl,hwz⟩
          obtain rfl:=hwz.symm
          clear hwz
          by_cases hgs:x1=1∨x1=4∨x1=5
          · have hde:decide (x1=1∨x1=4∨x1=5)=true:=decide_eq_true hgs
            have hgn:¬ (goesS x1=true):=by unfold goesS;rw[hde];simp
            rw[hde]
            go_wp2_with fail
            go_roundw
            case rel =>
              have hgo:=U HGO
              have hle:=U HLESS
              have hlo:=U HLOW
              rw[if_neg hnf,if_neg hgn]at hgo hle hlo
              try simp only[List.append_nil]at hgo hle hlo
              refine⟨r.set yn true,u,f',⟨own_len ((U HW1)) (by simp),U HO1,U HP1,hle.2,hlo⟩,hgo,?_,by omega,U HB1⟩
              have:=hle.1
              have:=U HFU
              omega
            case measure =>
              have hle:=U HLESS
              have hlo:=U HLOW
              rw[if_neg hnf,if_neg hgn]at hle hlo
              try simp only[List.append_nil]at hle hlo
              have h1:=Rch.measure (⟨own_len ((U HW1)) (by simp),U HO1,U HP1,hle.2,hlo⟩:Rch w.heap.size W #[.slice (some ⟨ag,aoff,none⟩) l.length c,.int .i64 en,.int .i64 ce] l (r.set yn true) (u) _)
              have h2:=U HMS
              have h3:=hle.1
              rw[h1]
              omega
          · have hde:decide (x1=1∨x1=4∨x1=5)=false:=decide_eq_false hgs
            have hgy:goesS x1=true:=by unfold goesS;rw[hde];rfl
            rw[hde]
            have HAW2:=V (ownsRow_alloc ((U HW1)) (.cells #[.int .i64 ((yn:Int)+1)] 3))
            have HNB2:=V (Blk.new W #[.int .i64 ((yn:Int)+1)] 3)
            have HBS2:Hid (w.heap.size+2≤(W.alloc (.cells #[.int .i64 ((yn:Int)+1)] 3)).heap.size):=V (by simp;omega)
            have hy1:IntKind.i64.wrap ((yn:Int)+1)=(yn:Int)+1:=by rw[IntKind.wrap_i64];omega
            go_wp2_with (at_builtin;refine wpList_append_lies _ rfl (.tmp 51) (.tmp 54) 115 rfl (w.heap.size+2) 3 iN _ 1 8 Tryz.underlying115 hiN hzN0 hzN1 hzN2 rfl (by decide) (.slice (some ⟨gt,0,none⟩) u.length ct) u.length (intCells (u)) (by simp[Act.eval]) (U HAW2) ⟨W.heap.size,0,none⟩ 1 1 [.int .i64 ((yn:Int)+1)] (by simp[Act.eval]) rfl (World.news_of_block (U HNB2)) (oneCells1 _) (by omega) (by unfold maxLen;omega) (by omega) (U HBS2) _ rfl ?_;intro g6 cap6 W6 hown6 hgrow6 hat6 hlt6;have HAP2:=V (Rch.app hgw ((U HW1)) hgrow6 hown6 (by simp));clear hown6 hgrow6 hat6)
            have hlen6:(u++[(yn:Int)+1]).length=u.length+1:=by simp
            have HAP3:Hid (W6.ownsRow (w.heap.size+2) 3 1 (.slice (some ⟨g6,0,none⟩) (u.length+1) cap6) (u.length+1) (intCells (u++[(yn:Int)+1]))):=by
              have:=(U HAP2).1
              rw[hlen6]at this
              exact this
            go_wp2_with fail
            go_roundw
            case rel =>
              have hgo:=U HGO
              have hle:=U HLESS
              have hlo:=U HLOW
              rw[if_neg hnf,if_pos hgy]at hgo hle hlo
              try simp only[List.append_nil]at hgo hle hlo
              refine⟨r.set yn true,u++[(yn:Int)+1],f',⟨own_len (U HAP3) hlen6.symm,OwnB.low (U HO1) (U HAP2).2 (by omega),Blk.below (U HP1) (U HAP2).2 (by omega),hle.2,hlo⟩,hgo,?_,by omega,(U HB1).trans ((U HAP2).2.mono (by omega))⟩
              have:=hle.1
              have:=U HFU
              omega
            case measure =>
              have hle:=U HLESS
              have hlo:=U HLOW
              rw[if_neg hnf,if_pos hgy]at hle hlo
              try simp only[List.append_nil]at hle hlo
              have h1:=Rch.measure (⟨own_len (U HAP3) hlen6.symm,OwnB.low (U HO1) (U HAP2).2 (by omega),Blk.below (U HP1) (U HAP2).2 (by omega),hle.2,hlo⟩:Rch w.heap.size W6 #[.slice (some ⟨ag,aoff,none⟩) l.length c,.int .i64 en,.int .i64 ce] l (r.set yn true) (u++[(yn:Int)+1]) _)
              have h2:=U HMS
              have h3:=hle.1
              rw[h1]
              omega
theorem set_same {α:Type} {l:List α} {k:Nat} {x:α} (h:l[k]? = some x):l.set k x=l:=by
  apply List.ext_getElem?
  intro i
  by_cases e:k=i
  · subst e
    rw[List.getElem?_set_self (List.getElem?_eq_some_iff.1 h).1,h]
  · rw[List.getElem?_set_ne e]
theorem withoutUnreached_any (ao:Option Addr) (c en:Nat) (ce:Int) (l:List (Int×Int)) (w:World) (hin:InL w ao l) (hp:PrOk (l,en)) :
    Calls Tryz.prog 82 #[.agg #[.slice ao l.length c,.int .i64 en,.int .i64 ce]] w (ProgOut w (joinedS l.length en ((blocksS l en).map (unreachS (reachedS l en)))) ce):=by
  have hw2:=below_box2 w (.cells #[.slice ao l.length c,.int .i64 en,.int .i64 ce] 73) (.cells #[.slice none 0 0,.int .i64 0,.int .i64 0] 73)
  have hP:Blk ((w.alloc (.cells #[.slice ao l.length c,.int .i64 en,.int .i64 ce] 73)).alloc (.cells #[.slice none 0 0,.int .i64 0,.int .i64 0] 73)) w.heap.size #[.slice ao l.length c,.int .i64 en,.int .i64 ce] 73:=(Blk.new w _ _).alloc _
  have hR:=blk_two w (.cells #[.slice ao l.length c,.int .i64 en,.int .i64 ce] 73) #[.slice none 0 0,.int .i64 0,.int .i64 0] 73
  have hsz2:((w.alloc (.cells #[.slice ao l.length c,.int .i64 en,.int .i64 ce] 73)).alloc (.cells #[.slice none 0 0,.int .i64 0,.int .i64 0] 73)).heap.size=w.heap.size+2:=by simp
  have hent:en<l.length:=hp.entry
  have hsm:l.length≤5000:=hp.small
  have hfine:=blocks_fine (l:=l) (en:=en)
  have hflat:=hfine.flat
  rw[List.take_length]at hflat
  have HBO:=V (blocksOf_any ao c en ce l _ (hin.below hw2) (by omega) hent hp.names)
  have HMEM:Hid (∀ b∈blocksS l en,∀ x∈b.2,x∈l):=fun b hb x hx=>by rw[← hflat];exact List.mem_flatMap.2 ⟨b,hb,hx⟩
  have HROW:Hid (∀ b∈blocksS l en,b.2.length≤5000):=fun b hb=>Nat.le_trans (hfine.row hb) hsm
  have HLOW:=V hfine.low
  have hbl:(blocksS l en).length≤l.length:=hfine.len
  have HP:=V hP
  have HR:=V hR
  have HW2:=V hw2
  have HPR:=V hp
  have HSZ2:=V hsz2
  have HNAM:Hid (∀ rd,∀ b∈(blocksS l en).map (unreachS rd),∀ x∈b.2,namesS x.1=true→0≤x.2∧x.2<l.length):=fun rd b hb x hx hn=>by
    obtain⟨b',hb',rfl⟩:=List.mem_map.1 hb
    exact hp.names x (U HMEM b' hb' x (unreach_mem hx).2) hn
  have HFL:Hid (((blocksS l en).flatMap (·.2)).length≤5000):=by rw[hflat];exact hsm
  have HRI:=V (fun W hW=>reachedIn_any ao c en ce l W (InL.below (hin.below hw2) hW) hp)
  generalize hbs:blocksS l en=bs at *
  generalize hrd:reachedS l en=rd at *
  have hrdl:rd.length=l.length:=by rw[← hrd];exact (reached_inv (U HPR)).len
  clear hw2 hP hR hp hfine hflat hin hsz2 hbs hrd
  go_enter Tryz.func82,Tryz.ntmps82
  go_wp2_with fail
  generalize ((w.alloc (.cells #[.slice ao l.length c,.int .i64 en,.int .i64 ce] 73)).alloc (.cells #[.slice none 0 0,.int .i64 0,.int .i64 0] 73))=W1 at *
  refine (U HBO).mono ?_
  rintro e W2 ⟨lg,lc,rs,rfl,hbk,hrs,hb2⟩
  have hlen:rs.length=bs.length:=by rw[← hrs,List.length_map]
  have hlgs:=hbk.lt
  have HBK:=V hbk
  have HRS:=V hrs
  have HB2:=V hb2
  have HLEN:=V hlen
  obtain⟨m,hm⟩:∃ m,m=rs.length:=⟨_,rfl⟩
  rw[← hm]at hlen ⊢
  have HM:=V hm
  have hm5:m≤5000:=by omega
  have hmI:(m:Int)≤5000:=by omega
  have HLG:Hid (W1.heap.size≤lg):=hlgs.2
  have hPw:=Blk.below (U HP) (U HB2) (U HP).lt
  have hcpw:=hPw.cell
  have hlpw:=hPw.lt
  clear hbk hrs hb2 HBO hm hlen hlgs hPw
  go_wp2_with fail
  refine (U HRI W2 (U HB2)).mono ?_
  rintro e W3 ⟨gr,rfl,hor,hb3⟩
  have HOR:=V hor
  have HBK3:=V ((U HBK).below hb3)
  have HB23:Hid (Below W1.heap.size W1 W3):=(U HB2).trans (hb3.mono (U HB2).size)
  have HGR:Hid (W2.heap.size≤gr):=hor.lt.2
  have HLG3:Hid (lg<W2.heap.size):=(U HBK).lt.1
  clear hor hb3 hcpw hlpw HRI
  go_wp2_with fail
  go_loopw [12] (fun i wr=>∃ (k:Nat) (rs':List LBl),i=.int .i64 k∧k≤m∧rs'.length=m∧BlksAt W1.heap.size wr lg lc rs'∧rs'.map LBl.blo=mapTo (unreachS rd) bs k∧OwnB W2.heap.size wr gr rd∧Below W1.heap.size W1 wr) (fun i _=>m-(intOf i).toNat)
  case atStart=>exact⟨0,rs,rfl,Nat.zero_le _,(U HM).symm,U HBK3,by rw[mapTo_zero];exact U HRS,U HOR,U HB23⟩
  case round =>
    obtain⟨k,rs',rfl,hk,hl',hbk,hmap,hor,hbw⟩:=hrel
    have HORR:=V hor
    have HBK':=V hbk
    have HMAP:=V hmap
    have HBW:=V hbw
    have HL':=V hl'
    by_cases hlt:k<m
    · obtain⟨r,hr⟩:∃ r,rs'[k]? = some r:=⟨_,List.getElem?_eq_getElem (by omega)⟩
      have hkb:k<bs.length:=by have:=U HLEN;have:=U HM;omega
      have hrb:bs[k]? = some r.blo:=by
        rw[← mapTo_at (unreachS rd) bs k hkb,← hmap,List.getElem?_map,hr]
        rfl
      have hrm:=List.mem_of_getElem? hrb
      obtain⟨e1,e2,hinr,hcapr⟩:=hbk.cells hr
      have hfree:=own_free hbk.1
      have hlgl:=hbk.lt.1
      have hltI:(k:Int)<m:=by omega
      obtain⟨rf,ra,rc,rl⟩:=r
      simp only[LBl.blo]at e1 e2 hinr hcapr hrb hrm
      have hrl:rl.length≤5000:=U HROW _ hrm
      have hrn:rf<l.length:=U HLOW _ hrm
      obtain⟨b,hb⟩:∃ b,rd[rf]? = some b:=⟨_,List.getElem?_eq_getElem (by omega)⟩
      have hcb:=hor.cell hb
      have hlgr:=hor.lt.1
      have hrnI:(rf:Int)<l.length:=by omega
      have hgd:rd.getD rf false=b:=by rw[List.getD_eq_getElem?_getD,hb];rfl
      have HNX:=V (mapTo_next (unreachS rd) hrb)
      have HSET:=V (hbk.set hr none 0 [] (Or.inl rfl) (Nat.le_refl _) (fun g off e=>by cases e))
      have HAT:Hid ((mapTo (unreachS rd) bs k)[k]? = some (rf,rl)):=by
        show _=_
        rw[mapTo_at _ _ _ hkb]
        exact hrb
      have HFAR:Hid (OwnB W2.heap.size (wr.setCell ⟨lg,k * 2+1,none⟩ (.slice none 0 0)) gr rd):=ownsRow_far hor (a:=⟨lg,k * 2+1,none⟩) (by
        have:=U HGR
        have:=U HLG3
        simp[Value.ownBlock]
        omega) _
      have HGD:=V hgd
      clear hbk hmap hbw hrb hrm hinr hcapr hr hl' hor hb hgd
      cases b with
      | true =>
        go_wp2_with fail
        go_roundw
        case rel =>
          refine⟨k+1,rs',by go_num,by omega,U HL',U HBK',?_,U HORR,U HBW⟩
          have e:unreachS rd (rf,rl)=(rf,rl):=by unfold unreachS;rw[if_pos (U HGD)]
          rw[U HNX,e,U HMAP]
          exact (set_same (U HAT)).symm
        case measure=>simp[intOf];omega
      | false =>
        go_wp2_with fail
        go_roundw
        case rel =>
          refine⟨k+1,rs'.set k (rf,none,0,[]),by go_num,by omega,by rw[List.length_set];exact U HL',U HSET,?_,U HFAR,(U HBW).setCell (U HLG) _⟩
          have e:unreachS rd (rf,rl)=(rf,[]):=by unfold unreachS;rw[if_neg (by simp only;rw[U HGD];simp)]
          rw[List.map_set,U HMAP,U HNX,e]
          rfl
        case measure=>simp[intOf];omega
    · have hkk:k=m:=by omega
      subst hkk
      have hmb:k=bs.length:=by rw[U HM];exact U HLEN
      have hmap2:rs'.map LBl.blo=bs.map (unreachS rd):=by rw[hmap,hmb,mapTo_all]
      have hPw:=Blk.below (U HP) hbw (U HP).lt
      have hRw:=Blk.below (U HR) hbw (U HR).lt
      have HJO:=V (joined_any W1.heap.size ao c l.length en ce lg lc rs' (bs.map (unreachS rd)) wr hbk hmap2 (fun b hb=>by
        obtain⟨b',hb',rfl⟩:=List.mem_map.1 hb
        have e:((unreachS rd) b').1=b'.1:=by first|rfl|(unfold unreachS;split<;>rfl)|(unfold idleS;split<;>rfl)
        rw[e]
        exact U HLOW b' hb') (U HNAM rd) hent (by omega) (by
        have:=map_flat_le (unreachS rd) (fun b=>by unfold unreachS;split<;>simp) bs
        have h2:=U HFL
        omega) (by omega))
      rw[hl']at HJO
      have hcp:=hPw.cell
      have hlp:=hPw.lt
      have HRW:=V hRw
      clear hbk hmap hmap2 hPw hRw hl' hmb hbw hor
      generalize hq:joinedS l.length en (bs.map (unreachS rd))=q at *
      go_wp2_with fail
      refine (U HJO).mono ?_
      rintro e w4 ⟨a4,c4,rfl,ho4,hb4⟩
      have hR4:=Blk.below (U HRW) hb4 (U HRW).lt
      have hcr:=hR4.cell
      have hfr:=hR4.free
      have hlr:=hR4.lt
      have HR4:=V hR4
      have HO4:=V ho4
      have HB4:=V hb4
      clear ho4 hb4 HJO hR4 HRW hcp hlp
      go_wp2_with fail
      refine bodyPost_ret (results_row3 (P:=Tryz.prog) rfl _ _ (w.heap.size+1) 73 _ (0,0) _ rfl (triple_set (U HR4) rfl) Tryz.underlying73 rfl Tryz.sizeProgram) rfl ?_
      have hsz:=U HSZ2
      have hww:w.heap.size≤wr.heap.size:=by have:=(U HBW).size;omega
      have hn:(Value.slice a4 q.1.length c4).ownBlock≠some (w.heap.size+1):=fun e=>row_not_blk (U HR4) (U HO4) (by decide) e
      have hb5:Below w.heap.size w w4:=(U HW2).trans (((U HBW).trans ((U HB4).mono (U HBW).size)).mono (by omega))
      try rw[hq]
      refine⟨a4,c4,rfl,?_,((hb5.setCell (by simp) _).setCell (by simp) _).setCell (by simp) _⟩
      exact ownsRow_base (ownsRow_far (ownsRow_far (ownsRow_far (U HO4) hn _) hn _) hn _) hww
end Go.Proofs.YtmeiikjpaepogaaGreatDoor
