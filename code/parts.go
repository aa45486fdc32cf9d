package code

import "fathom/api"

// Parts answers the operators that one which stands for several stands for, in their order; none for every other.
func Parts(op int) []int {
	switch op {
	case api.LitAdd:
		return []int{api.Lit, api.Add}
	case api.LitSub:
		return []int{api.Lit, api.Sub}
	case api.LitMul:
		return []int{api.Lit, api.Mul}
	case api.LitLess:
		return []int{api.Lit, api.Less}
	case api.LitFetch:
		return []int{api.Lit, api.Fetch}
	case api.LitStore:
		return []int{api.Lit, api.Store}
	case api.LitAddFetch:
		return []int{api.Lit, api.Add, api.Fetch}
	case api.DupFetch:
		return []int{api.Dup, api.Fetch}
	case api.DupMul:
		return []int{api.Dup, api.Mul}
	case api.DupDup:
		return []int{api.Dup, api.Dup}
	case api.DupOver:
		return []int{api.Dup, api.Over}
	case api.DupLitEqual:
		return []int{api.Dup, api.Lit, api.Equal}
	case api.DropDrop:
		return []int{api.Drop, api.Drop}
	case api.DropDup:
		return []int{api.Drop, api.Dup}
	case api.SwapDrop:
		return []int{api.Swap, api.Drop}
	case api.SwapOver:
		return []int{api.Swap, api.Over}
	case api.OverOver:
		return []int{api.Over, api.Over}
	case api.OverAdd:
		return []int{api.Over, api.Add}
	case api.OverOverLess:
		return []int{api.Over, api.Over, api.Less}
	case api.FetchAdd:
		return []int{api.Fetch, api.Add}
	}
	return nil
}
